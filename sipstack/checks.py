"""The checks that several modules share: each one refuses, or lets through and tells nothing."""

from sipstack.errors import BadCount, BadPlace, BadRoom, NotByte, TooLong
from sipstack.words import LONGEST

GREATEST_ROOM = 64


def is_whole(thing):
    # Python counts the truths among the whole numbers, the document does not.
    return isinstance(thing, int) and not isinstance(thing, bool)


def is_byte(thing):
    return is_whole(thing) and 0 <= thing <= 255


def check_room(room):
    if not is_whole(room) or not 1 <= room <= GREATEST_ROOM:
        raise BadRoom()


def check_count(count):
    """Refuse a count or limit below nought; None stands for one that is left out."""
    if count is not None and count < 0:
        raise BadCount()


def check_bytes(data):
    for at, thing in enumerate(data):
        if not is_byte(thing):
            raise NotByte(at)


def check_length(length):
    if length > LONGEST:
        raise TooLong(length)


def check_goal(goal):
    """Refuse a goal or size that no row can have."""
    if goal < 0:
        raise BadPlace(goal)
    check_length(goal)
