"""The plain file: one row of bytes and one cursor."""

from sipstack.checks import check_bytes, check_count, check_goal, check_length
from sipstack.errors import BadStart
from sipstack.rows import laid
from sipstack.words import LINE_FEED


class Plain:
    """What a file tells as long as nothing stalls or fails."""

    def __init__(self, row, place=0):
        self.cells = list(row)
        self.cursor = place

    def read(self, many=None):
        return self.passed(self.peek(many))

    def read_some(self, many):
        return self.passed(self.peek(many))

    def peek(self, many=1):
        check_count(many)
        return self.ahead()[:many]

    def readline(self, limit=None):
        check_count(limit)
        return self.passed(first_line(self.ahead(), limit))

    def write(self, data):
        check_bytes(data)
        if data:
            check_length(max(len(self.cells), self.cursor + len(data)))
        self.cells = laid(self.cells, self.cursor, data)
        self.cursor += len(data)
        return len(data)

    def seek(self, place, *, start="head"):
        self.cursor = seek_goal(place, start, self.cursor, len(self.cells))
        return self.cursor

    def tell(self):
        return self.cursor

    def size(self):
        return len(self.cells)

    def cut(self, size=None):
        goal = self.cursor if size is None else size
        check_goal(goal)
        del self.cells[goal:]

    def row(self):
        return list(self.cells)

    def ahead(self):
        """The bytes from the cursor on, a new list."""
        return self.cells[self.cursor:]

    def passed(self, told):
        """The told bytes, with the cursor led behind them."""
        self.cursor += len(told)
        return told


def first_line(row, limit):
    """The bytes up to the first feed and with it, at most limit (None: any number), a new list."""
    line = row[:limit]
    if LINE_FEED in line:
        return line[:line.index(LINE_FEED) + 1]
    return line


def seek_goal(place, start, cursor, size):
    """Where a seek leads to, from a cursor in a row of this size."""
    if start == "head":
        goal = place
    elif start == "here":
        goal = cursor + place
    elif start == "tail":
        goal = size + place
    else:
        raise BadStart()
    check_goal(goal)
    return goal
