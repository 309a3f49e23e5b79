"""Pouring: from a source to a target, each byte or sign once, through stalls and faults."""

from sipstack.checks import check_count, check_room
from sipstack.errors import Fault, NoWay, PourFault, Same, Stalled
from sipstack.files import File
from sipstack.texts import Text
from sipstack.words import ROOM


def pour(source, target, *, room=ROOM, most=None):
    """A tuple (count, word): how many were poured, and most, end or stalled."""
    check_room(room)
    check_count(most)
    if not are_alike(source, target):
        raise NoWay("pour")
    if source == target:
        raise Same()
    source.engaged = True
    target.engaged = True
    try:
        return poured(source, target, room, most)
    finally:
        source.engaged = False
        target.engaged = False


def are_alike(source, target):
    both_files = isinstance(source, File) and isinstance(target, File)
    both_texts = isinstance(source, Text) and isinstance(target, Text)
    return both_files or both_texts


def poured(source, target, room, most):
    count = 0
    while count != most:
        many = room if most is None else min(room, most - count)
        piece = next_piece(source, many, count)
        if not piece:
            return (count, "stalled" if piece is None else "end")
        went = hand_over(piece, source, target, count)
        count += went
        if went < len(piece):
            return (count, "stalled")
    return (count, "most")


def next_piece(source, many, count):
    """What the source tells by a peek; None where it stalls."""
    try:
        return source.peek(many)
    except Stalled:
        return None
    except Fault as fault:
        raise PourFault(fault.number, count=count, side="source")


def hand_over(piece, source, target, count):
    """How many of the piece are in at the target; so many are read from the source, which asks nothing for them."""
    try:
        went = target.write(piece)
    except Stalled as stall:
        went = stall.taken
    except Fault as fault:
        source.read(fault.taken)
        raise PourFault(fault.number, count=count + fault.taken, side="target")
    source.read(went)
    return went
