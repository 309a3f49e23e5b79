"""Plays: calls are done upon a file and its device, and all that was asked and told is noted."""

from sipstack.errors import (
    BadCount, BadPlace, BadStart, Closed, Fault, NoReads, NoSeek, NotByte, NoWrites, Stalled, TooLong,
)
from sipstack.raws import own_copy


def play(file, raw, calls):
    """A list of tuples (call, answer, asks), one for each call."""
    history = []
    for call in calls:
        asked = len(raw.notes)
        answer = answer_of(file, raw, call)
        history.append((tuple([own_copy(part) for part in call]), answer, raw.log_behind(asked)))
    return history


def answer_of(file, raw, call):
    """("told", what was told), or ("refused", the class's name, its value, its taken)."""
    try:
        return ("told", done(file, raw, call))
    except Fault as fault:
        return ("refused", "Fault", fault.number, fault.taken)
    except Stalled as stall:
        return ("refused", "Stalled", None, stall.taken)
    except TooLong as too_long:
        return ("refused", "TooLong", too_long.length, 0)
    except BadPlace as bad_place:
        return ("refused", "BadPlace", bad_place.goal, 0)
    except NotByte as not_byte:
        return ("refused", "NotByte", not_byte.at, 0)
    except Closed:
        return ("refused", "Closed", None, 0)
    except NoSeek:
        return ("refused", "NoSeek", None, 0)
    except NoReads:
        return ("refused", "NoReads", None, 0)
    except NoWrites:
        return ("refused", "NoWrites", None, 0)
    except BadCount:
        return ("refused", "BadCount", None, 0)
    except BadStart:
        return ("refused", "BadStart", None, 0)


def done(file, raw, call):
    """Do one call, and tell what it tells."""
    word = call[0]
    if word == "read":
        return file.read(call[1])
    if word == "read_some":
        return file.read_some(call[1])
    if word == "peek":
        return file.peek(call[1])
    if word == "readline":
        return file.readline(call[1])
    if word == "write":
        return file.write(call[1])
    if word == "seek":
        return file.seek(call[1], start=call[2])
    if word == "tell":
        return file.tell()
    if word == "cut":
        return file.cut(call[1])
    if word == "flush":
        return file.flush()
    if word == "close":
        return file.close()
    return raw.grow(call[1])
