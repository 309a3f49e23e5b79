"""The device: a raw that gives, takes, stalls and fails by a plan."""

from sipstack.checks import check_length
from sipstack.errors import Fault
from sipstack.raws import Raw
from sipstack.rows import laid, row_text


class Device(Raw):
    """A raw over a row of its own; to each ask the next number of its plan belongs."""

    def __init__(self, content, *, plan=(), seeks=True):
        Raw.__init__(self, bool(seeks))
        self.cells = list(content)
        self.plan = list(plan)
        self.used = 0

    def grow(self, data):
        """Lay bytes behind the row's end, by another hand: no ask, also of a shut device."""
        if self.can_seek:
            check_length(len(self.cells) + len(data))
        self.cells.extend(data)

    def content(self):
        return list(self.cells)

    def left(self):
        """How many numbers of the plan are left."""
        return len(self.plan) - self.used

    def __len__(self):
        return len(self.cells)

    def __str__(self):
        return str(row_text(self.cells))

    def __eq__(self, other):
        return isinstance(other, Device) and self.cells == other.cells

    def give(self, many):
        most = self.allowed(many)
        if most == 0:
            return None
        return self.cells[self.spot:self.spot + most]

    def accept(self, data):
        most = self.allowed(len(data))
        if most == 0:
            return None
        self.cells = laid(self.cells, self.spot, data[:most])
        return most

    def move(self, place):
        # A go stalls at no number, but it uses one and may fail by it.
        self.allowed(1)

    def trim(self, size):
        self.allowed(1)
        del self.cells[size:]

    def extent(self):
        return len(self.cells)

    def allowed(self, many):
        """How many of so many bytes the plan lets through at this ask; behind the plan's end all of them."""
        if self.left() == 0:
            return many
        number = self.plan[self.used]
        self.used += 1
        if number < 0:
            raise Fault(-number)
        return min(many, number)
