"""What every raw keeps: its place, its asks with their refusals, its questions and its log."""

from sipstack.checks import check_length
from sipstack.errors import Closed, Fault, NoSeek


class Raw:
    """The base of all raws, never made alone.

    The asks here refuse, note and move the place. What is done at an ask is told by the class beneath, in give,
    accept, move and trim, and how long its row is in extent; may_take, may_put and may_cut refuse what it never does.
    """

    def __init__(self, can_seek):
        self.can_seek = can_seek
        self.spot = 0
        self.barred = False
        self.notes = []

    def take(self, many):
        """The next bytes, at most many; [] at the end; None at a stall."""
        self.check_open()
        self.may_take()
        try:
            came = self.give(many)
        except Fault:
            self.note("take", many, "fault")
            raise
        if came is None:
            self.note("take", many, "stall")
            return None
        self.note("take", many, list(came))
        self.spot += len(came)
        return came

    def put(self, data):
        """How many of the bytes it took, from the first on; None at a stall."""
        self.check_open()
        self.may_put(data)
        handed = list(data)
        try:
            took = self.accept(handed)
        except Fault:
            self.note("put", handed, "fault")
            raise
        if took is None:
            self.note("put", handed, "stall")
            return None
        self.note("put", handed, took)
        self.spot += took
        return took

    def go(self, place):
        self.check_open()
        self.check_seeks()
        check_length(place)
        try:
            self.move(place)
        except Fault:
            self.note("go", place, "fault")
            raise
        self.note("go", place, 0)
        self.spot = place

    def cut(self, size):
        self.check_open()
        self.may_cut()
        check_length(size)
        try:
            self.trim(size)
        except Fault:
            self.note("cut", size, "fault")
            raise
        self.note("cut", size, 0)

    def shut(self):
        self.barred = True

    def place(self):
        self.check_seeks()
        return self.spot

    def size(self):
        self.check_seeks()
        return self.extent()

    def seeks(self):
        return self.can_seek

    def is_shut(self):
        return self.barred

    def log(self):
        """All asks so far, as tuples (word, place, handed, came)."""
        return self.log_behind(0)

    def log_behind(self, many):
        """The log without its first rows, so many."""
        return [(word, place, own_copy(handed), own_copy(came)) for word, place, handed, came in self.notes[many:]]

    def note(self, word, handed, came):
        # Noted ahead of any move, as the log tells the place ahead of the ask.
        self.notes.append((word, self.spot, handed, came))

    def check_open(self):
        if self.barred:
            raise Closed()

    def check_seeks(self):
        if not self.can_seek:
            raise NoSeek()

    def may_take(self):
        """Refuse a take that this raw never does."""

    def may_put(self, data):
        """Refuse a put that this raw never does."""
        if self.can_seek:
            check_length(max(self.extent(), self.spot + len(data)))

    def may_cut(self):
        """Refuse a cut that this raw never does."""
        self.check_seeks()

    def give(self, many):
        """The next bytes for a take, as a new list; [] at the end, None at a stall; may fail with Fault."""
        raise NotImplementedError()

    def accept(self, data):
        """How many bytes of a put are in; None at a stall; may fail with Fault."""
        raise NotImplementedError()

    def move(self, place):
        """What a go does beside leading the place; may fail with Fault."""
        raise NotImplementedError()

    def trim(self, size):
        """End the row at the size; may fail with Fault."""
        raise NotImplementedError()

    def extent(self):
        """How many bytes the row has."""
        raise NotImplementedError()


def own_copy(thing):
    """A list as a new one, so that an asker's change in it reaches nothing; anything else as it is."""
    if isinstance(thing, list):
        return list(thing)
    return thing
