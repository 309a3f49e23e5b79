"""Sipstack: files over raws that give little, stall and fail."""
