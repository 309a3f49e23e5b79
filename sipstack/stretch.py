"""The stretch: a raw that lies upon a file."""

from sipstack.checks import check_length
from sipstack.errors import BadPlace, Closed, Fault, NoCut, NoReads, NoWrites, Stalled
from sipstack.raws import Raw
from sipstack.words import FULL


class Stretch(Raw):
    """The bytes of a file's row from first on, at most size."""

    def __init__(self, file, first, size):
        if file.closed():
            raise Closed()
        if not file.reads:
            raise NoReads()
        if not file.writes:
            raise NoWrites()
        if first < 0:
            raise BadPlace(first)
        if size < 1:
            raise BadPlace(size)
        check_length(first + size)
        Raw.__init__(self, True)
        self.below = file
        self.first = first
        self.span = size

    def check_open(self):
        if self.barred or self.below.closed():
            raise Closed()

    def may_put(self, data):
        """No put is too long: what does not fit is not taken, or fails with FULL."""

    def may_cut(self):
        raise NoCut()

    def give(self, many):
        left_over = self.span - self.spot
        if left_over <= 0:
            return []
        try:
            self.below.seek(self.first + self.spot)
            return self.below.read_some(min(many, left_over))
        except Stalled:
            return None

    def accept(self, data):
        left_over = self.span - self.spot
        if left_over <= 0:
            raise Fault(FULL)
        try:
            self.below.seek(self.first + self.spot)
            fitting = min(left_over, self.free_room())
        except Stalled:
            return None
        # So few that they wait in the file and it asks nothing: no stall or fault can leave a part of them in.
        return self.below.write(data[:fitting])

    def move(self, place):
        """A go calls nothing."""

    def extent(self):
        return min(self.span, max(0, self.below.size() - self.first))

    def free_room(self):
        """How many bytes may wait in the file beside those that wait there, one at least: else it is flushed."""
        if len(self.below.waiting()) == self.below.room:
            self.below.flush()
        return self.below.room - len(self.below.waiting())
