"""The pipe: bytes are put at one end and taken at the other one."""

from sipstack.checks import check_room
from sipstack.errors import Fault, NoReads, NoWrites
from sipstack.raws import Raw
from sipstack.words import BROKEN, ROOM


class IntoEnd(Raw):
    """The end at which bytes are put."""

    def __init__(self, pipe):
        Raw.__init__(self, False)
        self.pipe = pipe

    def may_take(self):
        raise NoReads()

    def accept(self, data):
        return self.pipe.lay(data)


class OutEnd(Raw):
    """The end at which bytes are taken."""

    def __init__(self, pipe):
        Raw.__init__(self, False)
        self.pipe = pipe

    def may_put(self, data):
        raise NoWrites()

    def give(self, many):
        return self.pipe.lift(many)

    def shut(self):
        super().shut()
        self.pipe.drop()


class Pipe:
    """Two raws that do not seek, and between them at most as many bytes as the room."""

    def __init__(self, *, room=ROOM):
        check_room(room)
        self.room = room
        self.within = []
        self.into_end = IntoEnd(self)
        self.out_end = OutEnd(self)

    def into(self):
        return self.into_end

    def out(self):
        return self.out_end

    def held(self):
        return list(self.within)

    def lay(self, data):
        """How many of the bytes go in; None where the pipe is full."""
        if self.out_end.is_shut():
            raise Fault(BROKEN)
        fitting = data[:self.room - len(self.within)]
        if not fitting:
            return None
        self.within.extend(fitting)
        return len(fitting)

    def lift(self, many):
        """The first bytes that lie here, gone from here then; [] or None where none lie here."""
        told = self.within[:many]
        del self.within[:many]
        if told or self.into_end.is_shut():
            return told
        return None

    def drop(self):
        """Nobody can take what lies here any more."""
        self.within = []
