"""The refusals: each one stands straight beneath SipError.

No message is built of the values: they may be numbers of any length, and Python refuses to write very long ones.
"""


class SipError(ValueError):
    """Any refusal."""


class NoRow(SipError):
    """A str that is not written of any row."""


class Closed(SipError):
    """The thing that was called is closed, or the raw is shut."""


class NoSeek(SipError):
    """The raw does not seek."""


class NoCut(SipError):
    """The raw cannot be cut."""


class NoReads(SipError):
    """The thing that was called does not read."""


class NoWrites(SipError):
    """The thing that was called does not write."""


class BadCount(SipError):
    """A count or limit below nought."""


class BadStart(SipError):
    """A start of a seek that is none of the three words."""


class BadRoom(SipError):
    """A room that is not from 1 to 64."""


class Same(SipError):
    """Source and target are the same object."""


class NotRecord(SipError):
    """A thing that is no record of a journal."""


class Fault(SipError):
    """An ask failed; number tells which fault it is, taken how many of the handed bytes are in."""

    def __init__(self, number, *, taken=0):
        self.number = number
        self.taken = taken


class Stalled(SipError):
    """An ask stalled; taken tells how many of the handed bytes are in."""

    def __init__(self, *, taken=0):
        self.taken = taken


class TooLong(SipError):
    """A row would be too long; length is what it would have."""

    def __init__(self, length):
        self.length = length


class BadPlace(SipError):
    """A place that cannot be; goal is that place."""

    def __init__(self, goal):
        self.goal = goal


class NotByte(SipError):
    """A thing among the written ones is no byte; at is its number in the list."""

    def __init__(self, at):
        self.at = at


class BadCode(SipError):
    """A wrong byte; at is its place."""

    def __init__(self, at):
        self.at = at


class NoSign(SipError):
    """A sign that the code has not."""

    def __init__(self, sign):
        self.sign = sign


class NoLine(SipError):
    """There are not so many lines; at is the line that was asked for."""

    def __init__(self, at):
        self.at = at


class NoCode(SipError):
    """A word that names no code."""

    def __init__(self, word):
        self.word = word


class NoEnds(SipError):
    """A word that names no way with line ends."""

    def __init__(self, word):
        self.word = word


class NoWay(SipError):
    """A word that names no way to do what was asked for."""

    def __init__(self, word):
        self.word = word


class PourFault(SipError):
    """A fault amid a pouring; count tells how many were poured, side where it failed."""

    def __init__(self, number, *, count=0, side="source"):
        self.number = number
        self.count = count
        self.side = side
