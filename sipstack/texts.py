"""The text: signs read from and written to a file."""

from sipstack.checks import check_count, check_length
from sipstack.codes import bytes_for_state, first_state, state_behind, write_signs
from sipstack.ends import written_ends
from sipstack.errors import BadCode, BadPlace, Closed, NoReads, SipError, Stalled
from sipstack.items import Scan, check_ways, signs_of
from sipstack.words import ANY, LONGEST, STEPS, STRICT


class Text:
    """A text upon a file.

    It stands at a byte place, spot, and in a state. What is unsent ends there; what is near begins there: bytes that
    the file told and no sign told yet. Never both have bytes. The file's own cursor is led only when it is needed.
    """

    def __init__(self, file, *, code=STEPS, ends=ANY, wrong=STRICT):
        if file.closed():
            raise Closed()
        if file.tell() != 0:
            raise BadPlace(file.tell())
        check_ways(code, ends, wrong)
        self.file = file
        self.code = code
        self.ends = ends
        self.wrong = wrong
        self.spot = 0
        self.state = first_state(code)
        self.unsent = []
        self.near = []
        # What the last peek told, and how many bytes the row had then: a read tells it without asking.
        self.peeked = []
        self.peeked_size = 0
        # The row's first bytes, as far as a go_end brought them.
        self.head = []
        self.told_changes = 0
        self.ended = False
        self.unsaved = []
        self.engaged = False

    def read(self, many=None):
        self.check_reading(many)
        if many == 0:
            return []
        if self.was_peeked(many):
            return self.passed_over(self.peeked[:many])
        scan, stalled = self.scanned(many, False)
        if not scan.found:
            return self.told_nothing(scan, stalled)
        return self.passed_over(scan.found)

    def peek(self, many=1):
        self.check_reading(many)
        if many == 0:
            return []
        scan, stalled = self.scanned(many, False)
        if not scan.found:
            return self.told_nothing(scan, stalled)
        self.peeked = scan.found
        self.peeked_size = self.row_size()
        return signs_of(scan.found)

    def readline(self, limit=None):
        self.check_reading(limit)
        if limit == 0:
            return []
        scan, stalled = self.scanned(limit, True)
        if not scan.found:
            return self.told_nothing(scan, stalled)
        return self.passed_over(scan.found)

    def write(self, signs):
        self.check_open()
        self.file.check_writes()
        row, state = write_signs(written_ends(signs, ends=self.ends), self.state, code=self.code)
        if not row:
            return 0
        if self.seeks():
            check_length(max(self.row_size(), self.spot + len(row)))
        self.forget()
        self.unsent.extend(row)
        self.spot += len(row)
        self.state = state
        self.told_changes += 1
        return len(signs)

    def tell(self):
        """A cookie: the byte place and the state."""
        self.check_open()
        self.file.check_seeks()
        return (self.spot, self.state)

    def go(self, cookie=None):
        goal = (0, first_state(self.code)) if cookie is None else cookie
        if goal == self.tell():
            return
        self.hand_on()
        self.stand_at(goal)

    def go_end(self):
        self.check_reading(None)
        self.file.check_seeks()
        self.hand_on()
        size = self.file.size()
        self.bring_head(bytes_for_state(size, self.code))
        self.stand_at((size, state_behind(self.head, self.code)))

    def cut(self):
        self.check_open()
        self.file.check_writes()
        self.file.check_seeks()
        self.hand_on()
        self.file.cut(self.spot)
        self.forget()
        self.told_changes += 1

    def flush(self):
        self.check_open()
        self.hand_on()

    def close(self):
        if self.ended:
            return
        try:
            self.hand_on()
        except SipError:
            self.end_with_file()
            if self.unsaved:
                raise
            return
        self.end_with_file()

    def waiting(self):
        self.check_open()
        return self.file.waiting() + self.unsent

    def changes(self):
        self.check_open()
        return self.told_changes

    def lost(self):
        return list(self.unsaved)

    def closed(self):
        return self.ended

    def busy(self):
        return self.engaged

    def detach(self):
        """The file, and the bytes that it told and no sign told, which one that seeks can tell once more."""
        self.check_open()
        self.hand_on()
        self.lead_file(self.spot)
        rest = [] if self.seeks() else self.near
        self.ended = True
        return (self.file, rest)

    def whole_line(self):
        """As readline tells; but refused with Stalled or BadCode where a stall or a wrong byte ended the line."""
        self.check_reading(None)
        scan, stalled = self.scanned(None, True)
        if not scan.full and stalled:
            raise Stalled()
        if scan.bad is not None:
            raise BadCode(self.spot + scan.bad)
        return self.passed_over(scan.found)

    def check_open(self):
        if self.ended:
            raise Closed()

    def check_reading(self, count):
        self.check_open()
        if not self.file.reads:
            raise NoReads()
        check_count(count)

    def seeks(self):
        return self.file.raw.seeks()

    def row_size(self):
        """How many bytes the file's row has; 0 where the raw does not seek, which nobody grows."""
        return self.file.size() if self.seeks() else 0

    def was_peeked(self, many):
        return many is not None and many <= len(self.peeked) and self.row_size() == self.peeked_size

    def scanned(self, most, by_line):
        """A tuple (scan, whether a take stalled): the items that are asked for, as far as their bytes come."""
        self.hand_on()
        # A go_end that was refused may have brought more from the place on than is near.
        if len(self.head) > self.spot + len(self.near):
            self.near = self.head[self.spot:]
        scan = Scan(0, self.state, code=self.code, ends=self.ends, wrong=self.wrong, most=most, by_line=by_line)
        scan.go_on(self.near, False)
        while not scan.full and scan.bad is None:
            came = self.bring(scan)
            if came is None:
                return (scan, True)
            # No end is kept: what it settled is settled for this call alone.
            scan.go_on(self.near, not came)
            if not came:
                break
        return (scan, False)

    def bring(self, scan):
        """Let the file tell what lies behind the near bytes, and tell what it told."""
        wanted = self.file.room
        if not scan.by_line:
            # A sign has one byte at least.
            wanted = max(wanted, LONGEST if scan.most is None else scan.most - len(scan.found))
        self.lead_file(self.spot + len(self.near))
        came = self.file.read_some(wanted)
        if came:
            self.near.extend(came)
        return came

    def bring_head(self, many):
        """Bring so many of the row's first bytes; what came ahead of a stall or a fault is kept."""
        while len(self.head) < many:
            self.lead_file(len(self.head))
            # All that a take brings comes here, so that nothing of it stays behind in the file.
            came = self.file.read_some(max(self.file.room, many - len(self.head)))
            if not came:
                raise Stalled()
            self.head.extend(came)

    def told_nothing(self, scan, stalled):
        if scan.bad is not None:
            raise BadCode(self.spot + scan.bad)
        return None if stalled else []

    def passed_over(self, found):
        """The signs of these items, with the text led behind them."""
        if found:
            sign, many, state = found[-1]
            del self.near[:many]
            self.spot += many
            self.state = state
            self.peeked = []
        return signs_of(found)

    def stand_at(self, cookie):
        self.spot, self.state = cookie
        self.near = []
        self.peeked = []

    def forget(self):
        """What lies from the place on is no more as it was brought."""
        self.near = []
        self.peeked = []
        del self.head[self.spot:]

    def lead_file(self, place):
        """Lead the file's cursor there, where it seeks; nothing is asked, as nothing waits in it or it stands there."""
        if self.seeks():
            self.file.seek(place)

    def hand_on(self):
        """Hand what waits on, till the raw has it all."""
        if self.unsent:
            self.lead_file(self.spot - len(self.unsent))
        self.file.hand_down(self.unsent)

    def end_with_file(self):
        try:
            self.file.close()
        except SipError:
            # What is lost by this stands in the file's lost.
            pass
        self.unsaved = self.file.lost() + self.unsent
        self.unsent = []
        self.near = []
        self.ended = True
