"""The file: it gathers bytes that were asked for and keeps back bytes that were written."""

from sipstack.checks import check_bytes, check_count, check_goal, check_length, check_room
from sipstack.errors import Closed, Fault, NoReads, NoSeek, NoWrites, SipError, Stalled
from sipstack.plain import first_line, seek_goal
from sipstack.words import LINE_FEED, LONGEST, ROOM


class File:
    """A file upon a raw.

    What waits ends at the cursor; what is known begins there. Never both have bytes: whatever lets bytes wait makes
    the known ones unknown, and ahead of each take all that waits is put.
    """

    def __init__(self, raw, *, room=ROOM, reads=True, writes=True):
        if raw.is_shut():
            raise Closed()
        check_room(room)
        if reads and writes and not raw.seeks():
            raise NoSeek()
        self.raw = raw
        self.room = room
        self.reads = reads
        self.writes = writes
        self.cursor = raw.place() if raw.seeks() else 0
        self.waits = []
        self.known = []
        self.seen_size = 0
        self.ended = False
        self.unsaved = []
        # Set by a pouring, as long as it goes on.
        self.engaged = False

    def read(self, many=None):
        self.check_reading(many)
        if many == 0:
            return []
        self.begin_reading()
        while many is None or len(self.known) < many:
            came = self.bring(LONGEST if many is None else many - len(self.known))
            if not came:
                return self.hand_out(list(self.known), came)
        return self.hand_out(self.known[:many], [])

    def read_some(self, many):
        told = self.peek(many)
        return self.hand_out(told, told)

    def peek(self, many=1):
        self.check_reading(many)
        if many == 0:
            return []
        self.begin_reading()
        if not self.known:
            came = self.bring(LONGEST if many is None else many)
            if not came:
                return came
        return self.known[:many]

    def readline(self, limit=None):
        self.check_reading(limit)
        if limit == 0:
            return []
        self.begin_reading()
        while not self.line_is_known(limit):
            came = self.bring(self.room)
            if not came:
                return self.hand_out(list(self.known), came)
        return self.hand_out(first_line(self.known, limit), [])

    def write(self, data):
        self.check_writing(data)
        if not data:
            return 0
        self.known = []
        self.waits.extend(data)
        self.cursor += len(data)
        try:
            self.put_down_to(self.room)
        except Stalled:
            raise Stalled(taken=len(data) - self.give_back())
        except Fault as fault:
            raise Fault(fault.number, taken=len(data) - self.give_back())
        return len(data)

    def seek(self, place, *, start="head"):
        self.check_open()
        self.check_seeks()
        goal = seek_goal(place, start, self.cursor, self.size())
        if goal != self.cursor:
            self.put_down_to(0)
            # The raw itself is led there only when bytes are asked for.
            self.cursor = goal
            self.known = []
        return goal

    def tell(self):
        self.check_open()
        return self.cursor

    def size(self):
        self.check_open()
        self.check_seeks()
        if self.waits:
            return max(self.raw.size(), self.cursor)
        return self.raw.size()

    def cut(self, size=None):
        self.check_open()
        self.check_writes()
        self.check_seeks()
        goal = self.cursor if size is None else size
        check_goal(goal)
        self.put_down_to(0)
        self.raw.cut(goal)
        self.known = []

    def flush(self):
        self.check_open()
        self.put_down_to(0)

    def close(self):
        if self.ended:
            return
        try:
            self.put_down_to(0)
        except SipError:
            self.end_and_shut()
            raise
        self.end_and_shut()

    def waiting(self):
        self.check_open()
        return list(self.waits)

    def lost(self):
        return list(self.unsaved)

    def closed(self):
        return self.ended

    def busy(self):
        return self.engaged

    def detach(self):
        """The raw, and the bytes that were brought and not told, which a raw that seeks can give once more."""
        self.check_open()
        self.put_down_to(0)
        self.lead(self.cursor)
        rest = [] if self.raw.seeks() else self.known
        self.known = []
        self.ended = True
        return (self.raw, rest)

    def check_open(self):
        if self.ended:
            raise Closed()

    def check_seeks(self):
        if not self.raw.seeks():
            raise NoSeek()

    def check_writes(self):
        if not self.writes:
            raise NoWrites()

    def check_reading(self, count):
        self.check_open()
        if not self.reads:
            raise NoReads()
        check_count(count)

    def check_writing(self, data):
        self.check_open()
        self.check_writes()
        check_bytes(data)
        if data and self.raw.seeks():
            check_length(max(self.size(), self.cursor + len(data)))

    def begin_reading(self):
        """Put what waits, and hold nothing for known that was brought ahead of a growing."""
        self.put_down_to(0)
        if self.raw.seeks() and self.raw.size() != self.seen_size:
            self.known = []

    def bring(self, wanted):
        """Take once, behind what is known, and tell what the take told; the bytes are known then."""
        self.lead(self.cursor + len(self.known))
        came = self.raw.take(max(self.room, wanted))
        if came:
            self.known.extend(came)
        if self.raw.seeks():
            self.seen_size = self.raw.size()
        return came

    def line_is_known(self, limit):
        line = first_line(self.known, limit)
        return len(line) == limit or LINE_FEED in line

    def hand_out(self, told, came):
        """The told bytes, with the cursor led behind them; where there are none, what the last take told."""
        if not told:
            return came
        del self.known[:len(told)]
        self.cursor += len(told)
        return told

    def lead(self, place):
        """Lead the raw's place there, where it seeks and stands elsewhere."""
        if self.raw.seeks() and self.raw.place() != place:
            self.raw.go(place)

    def put_down_to(self, most):
        """Put what waits, the eldest bytes ahead, till at most so many bytes wait; Stalled where a put stalls."""
        while len(self.waits) > most:
            self.lead(self.cursor - len(self.waits))
            took = self.raw.put(self.waits)
            if took is None:
                raise Stalled()
            del self.waits[:took]

    def hand_down(self, data):
        """Write the bytes of this list and put all that waits; what is in is gone from the list, however it ends."""
        if data:
            try:
                self.write(data)
            except Stalled as stall:
                del data[:stall.taken]
                raise Stalled()
            except Fault as fault:
                del data[:fault.taken]
                raise Fault(fault.number)
            data.clear()
        self.flush()

    def give_back(self):
        """Let only a room full wait, and tell how many of the youngest bytes are not in after all."""
        beyond = len(self.waits) - self.room
        del self.waits[self.room:]
        self.cursor -= beyond
        return beyond

    def end_and_shut(self):
        self.unsaved = self.waits
        self.waits = []
        self.known = []
        self.ended = True
        self.raw.shut()
