"""Judges: they look at what a play noted, and find the first tuple that no file can make."""

from sipstack.checks import is_whole
from sipstack.plain import Plain
from sipstack.playing import answer_of
from sipstack.rows import laid
from sipstack.words import LINE_FEED, LONGEST

READING = ("read", "read_some", "peek", "readline")


def judged(content, room, history):
    """None where the history is good, else the number of its first bad tuple."""
    walk = Walk(content, room)
    for at, (call, answer, asks) in enumerate(history):
        if not walk.lets(call, answer, asks):
            return at
    return None


class Walk:
    """A device and a file as they stand behind the tuples so far, walked by the asks and the answers.

    Within a call, pending are the bytes that wait, and the handed ones of a write behind them, as far as they are not
    put; eldest is the place of the first of them.
    """

    def __init__(self, content, room):
        self.room = room
        self.cells = list(content)
        self.spot = 0
        self.cursor = 0
        self.waits = []
        self.ended = False
        self.pending = []
        self.eldest = 0
        # Places whose bytes takes brought since the last turn.
        self.brought = {}
        # Places whose bytes takes brought or writes laid since the file was made: no others are told.
        self.owned = {}
        self.end_came = False

    def lets(self, call, answer, asks):
        """Whether a file can make this tuple; the walk goes on behind it then."""
        if call[0] == "grow":
            return not asks and self.grow_fits(call[1], answer)
        if self.ended:
            due = ("told", None) if call[0] == "close" else ("refused", "Closed", None, 0)
            return not asks and answer == due
        row = self.whole_row()
        plain = Plain(row, self.cursor)
        due = due_answer(plain, call)
        if due[0] == "refused":
            return not asks and answer == due
        silent = self.asks_nothing(call, due)
        if silent and asks:
            return False
        self.begin_call(call)
        if not self.asks_fit(call[0], asks):
            return False
        if call[0] == "write":
            return self.write_fits(call[1], answer, stop_of(asks))
        self.waits = self.pending
        if was_refused(asks):
            return refusal_fits(answer, stop_of(asks)) and self.whole_row() == row
        # All that waits is put ahead of all else, and the row is then the one that is due.
        if self.waits and not silent or self.whole_row() != plain.row():
            return False
        if call[0] in READING:
            return self.reading_fits(call, answer, due[1], stop_of(asks) == "stall")
        return answer == due and self.follow(call[0], due)

    def whole_row(self):
        """The file's row: the device's row with what waits laid over it."""
        return laid(self.cells, self.cursor - len(self.waits), self.waits)

    def grow_fits(self, data, answer):
        length = len(self.cells) + len(data)
        if length > LONGEST:
            return answer == ("refused", "TooLong", length, 0)
        self.cells.extend(data)
        if data:
            self.brought = {}
        return answer == ("told", None)

    def begin_call(self, call):
        data = call[1] if call[0] == "write" else []
        self.pending = self.waits + data
        self.eldest = self.cursor - len(self.waits)
        self.end_came = False
        if data:
            self.brought = {}
        # However it ends.
        if call[0] == "close":
            self.ended = True

    def known_count(self):
        """How many bytes from the cursor on are known."""
        count = 0
        while self.cursor + count in self.brought:
            count += 1
        return count

    def asks_nothing(self, call, due):
        """Whether point 20 says that nothing is asked by this call."""
        word = call[0]
        if word in READING:
            return call[1] == 0 or self.knows_enough(word, call[1])
        if word == "write":
            return not call[1] or len(self.waits) + len(call[1]) <= self.room
        if word == "seek":
            return due == ("told", self.cursor)
        return word == "tell" or word == "flush" and not self.waits

    def knows_enough(self, word, count):
        known = self.known_count()
        if word == "read_some" or word == "peek":
            return known > 0
        if count is not None and known >= count:
            return True
        return word == "readline" and LINE_FEED in self.cells[self.cursor:self.cursor + known]

    def asks_fit(self, call_word, asks):
        """Whether these can be the asks of such a call; the device is walked by them."""
        for at, (word, place, handed, came) in enumerate(asks):
            stops = came == "stall" or came == "fault"
            if place != self.spot or stops and at + 1 < len(asks):
                return False
            if not self.ask_fits(call_word, word, handed, came, stops):
                return False
        return True

    def ask_fits(self, call_word, word, handed, came, stops):
        if word == "put":
            return self.put_fits(handed, came, stops)
        if word == "take":
            return call_word in READING and not self.pending and self.take_fits(handed, came, stops)
        # By point 10 a go and a cut never stall, and by point 9 none leads above LONGEST.
        if came == "stall" or not 0 <= handed <= LONGEST:
            return False
        if word == "go":
            return self.go_fits(handed, came)
        return call_word == "cut" and not self.pending and self.cut_fits(handed, came)

    def take_fits(self, many, came, stops):
        if many < 1:
            return False
        if stops:
            return True
        there = self.cells[self.spot:self.spot + many]
        if came != there[:len(came)] or there and not came:
            return False
        if not came:
            self.end_came = True
        self.note_places(self.brought, self.spot, len(came))
        self.note_places(self.owned, self.spot, len(came))
        self.spot += len(came)
        return True

    def put_fits(self, data, came, stops):
        if not data or data != self.pending[:len(data)] or self.spot != self.eldest:
            return False
        if stops:
            return True
        if not 1 <= came <= len(data):
            return False
        # Noughts of a gap are the file's own from this put on.
        self.note_places(self.owned, len(self.cells), self.spot - len(self.cells))
        self.cells = laid(self.cells, self.spot, data[:came])
        del self.pending[:came]
        self.spot += came
        self.eldest += came
        return True

    def go_fits(self, place, came):
        if self.pending and place != self.eldest:
            return False
        if came == "fault":
            return True
        self.spot = place
        return came == 0

    def cut_fits(self, size, came):
        if came == "fault":
            return True
        del self.cells[size:]
        # What is grown there anew are other bytes.
        self.owned = {place: True for place in self.owned if place < size}
        self.brought = {}
        return came == 0

    def note_places(self, places, first, many):
        for place in range(first, first + many):
            places[place] = True

    def write_fits(self, data, answer, stop):
        """Whether a write can be answered so, behind its asks; as many of its bytes are in as the answer says."""
        beyond = len(self.pending) - self.room
        taken = len(data)
        if stop == "fault":
            if not is_fault(answer):
                return False
            taken = answer[3]
        elif beyond > 0:
            taken -= beyond
            if stop is None or answer != ("refused", "Stalled", None, taken):
                return False
        elif answer != ("told", taken):
            return False
        left_out = len(data) - taken
        if not 0 <= left_out <= len(data) or not 0 <= len(self.pending) - left_out <= self.room:
            return False
        self.waits = self.pending[:len(self.pending) - left_out]
        self.note_places(self.owned, self.cursor, taken)
        self.cursor += taken
        return True

    def reading_fits(self, call, answer, due, stalled):
        """Whether a reading call can be answered so, behind its asks."""
        if answer[0] != "told":
            return False
        told = answer[1]
        if call[1] == 0:
            return told == []
        if not due and not stalled:
            return told == [] and self.end_came
        least = self.least_told(call[0], due, stalled)
        if told is None:
            return stalled and least == 0
        if not told or len(told) < least or told != due[:len(told)]:
            return False
        if not all([place in self.owned for place in range(self.cursor, self.cursor + len(told))]):
            return False
        if call[0] != "peek":
            self.cursor += len(told)
        return True

    def least_told(self, word, due, stalled):
        """How many bytes of what is due are told at least."""
        if stalled:
            return min(len(due), self.known_count())
        if word == "read_some" or word == "peek":
            return 1
        return len(due)

    def follow(self, word, due):
        """Lead the walk behind a call that was told and reads and writes nothing; True."""
        if word == "seek" and due[1] != self.cursor:
            self.cursor = due[1]
            self.brought = {}
        if word == "cut":
            self.brought = {}
        return True


def due_answer(plain, call):
    """What the plain file tells, which is what is due."""
    if call[0] == "flush" or call[0] == "close":
        return ("told", None)
    return answer_of(plain, None, call)


def stop_of(asks):
    """How the last ask ended, where it stalled or failed, else None: those ahead of it did neither."""
    if asks and (asks[-1][3] == "stall" or asks[-1][3] == "fault"):
        return asks[-1][3]
    return None


def was_refused(asks):
    """Whether the last ask refused the call, which is no write: any one that failed, or a put that stalled."""
    stop = stop_of(asks)
    return stop == "fault" or stop == "stall" and asks[-1][0] == "put"


def refusal_fits(answer, stop):
    if stop == "fault":
        return is_fault(answer) and answer[3] == 0
    return answer == ("refused", "Stalled", None, 0)


def is_fault(answer):
    return answer[:2] == ("refused", "Fault") and is_whole(answer[2]) and answer[2] > 0
