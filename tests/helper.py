"""What several test files share: outcomes of calls, and a watch over a file that holds it against a plain file."""

from sipstack.device import Device
from sipstack.errors import SipError
from sipstack.codes import write_signs
from sipstack.ends import written_ends
from sipstack.files import File
from sipstack.plain import Plain
from sipstack.rows import laid
from sipstack.texts import Text

READING = ("read", "read_some", "peek", "readline")


def outcome(call, *handed, **named):
    """("told", what was told), or ("refused", the class's name, the values that the refusal keeps)."""
    try:
        return ("told", call(*handed, **named))
    except SipError as error:
        return ("refused", type(error).__name__, vars(error))


def told(what):
    return ("told", what)


def refused(name, **values):
    return ("refused", name, values)


FAULT_7 = refused("Fault", number=7, taken=0)
STALLED = refused("Stalled", taken=0)


def asks_of(raw, call, *handed, **named):
    """(the outcome of a call, the rows of the raw's log that were added by it)."""
    before = len(raw.log())
    answer = outcome(call, *handed, **named)
    return answer, raw.log()[before:]


def words_of(asks):
    return [word for word, _, _, _ in asks]


def enough(word, count, known):
    """Whether as many bytes are known as a reading call asks for (point 20)."""
    if count == 0:
        return True
    if word == "read":
        return count is not None and len(known) >= count
    if word == "readline":
        return 10 in known[:count] or (count is not None and len(known) >= count)
    return len(known) >= 1


class Call:
    """One call of a file, with all that stood ahead of it and came by it."""

    def __init__(self, watch, word, handed, named):
        self.word = word
        self.handed = handed
        self.waits = watch.file.waiting()
        self.cursor = watch.file.tell()
        due_file = Plain(watch.plain.row(), self.cursor)
        self.due = told(None) if word == "flush" else outcome(getattr(due_file, word), *handed, **named)
        self.data = list(handed[0]) if word == "write" else []
        default = 1 if word == "peek" else None
        self.count = handed[0] if handed else default
        self.asked = len(watch.device.log())
        self.answer = outcome(getattr(watch.file, word), *handed, **named)
        self.asks = watch.device.log()[self.asked:]
        self.put_bytes = [byte for word, _, data, came in self.asks if word == "put" and came not in ("stall", "fault")
                          for byte in data[:came]]
        self.last = self.asks[-1][3] if self.asks else None
        self.told_end = any(word == "take" and came == [] for word, _, _, came in self.asks)


class Watch:
    """Makes calls of a file upon a device and asks of each what points 13 to 20 promise."""

    def __init__(self, test, content, *, plan=(), room=8, seeks=True, reads=True, writes=True, raw=None):
        self.test = test
        self.plan = list(plan)
        self.room = room
        self.device = Device(content, plan=plan, seeks=seeks) if raw is None else raw
        self.file = File(self.device, room=room, reads=reads, writes=writes)
        self.plain = Plain(content)
        self.all_in = []
        self.all_put = []
        self.runs = []
        self.kept = []
        self.story = []
        self.turn()

    def turn(self):
        self.known = []
        self.brought = set()

    def need(self, truth, what):
        if not truth:
            self.test.fail((what, self.story[-12:], self.device.log()[-6:]))

    def same(self, one, other, what):
        self.need(one == other, (what, one, other))

    def grow(self, data):
        self.story.append(("grow", data))
        self.device.grow(data)
        self.runs = []
        if data and self.device.seeks():
            self.turn()
        waits, cursor = self.file.waiting(), self.file.tell()
        self.plain = Plain(laid(self.device.content(), cursor - len(waits), waits), cursor)

    def call(self, word, *handed, **named):
        self.story.append((word, handed, named))
        call = Call(self, word, handed, named)
        self.story[-1] += (call.answer,)
        if call.due[0] == "refused" or word in ("tell", "size"):
            self.same(call.answer, call.due, "as the plain file")
            self.same(call.asks, [], "nothing asked")
        else:
            self.check_nothing_asked(call)
            self.check_asks(call)
            self.check_answer(call)
            self.follow(call)
        self.check_state()
        return call.answer

    def check_nothing_asked(self, call):
        word = call.word
        if (
            (word in READING and enough(word, call.count, self.known))
            or (word == "write" and (not call.data or len(call.waits) + len(call.data) <= self.room))
            or (word == "seek" and call.due == told(call.cursor))
            or (word == "flush" and not call.waits)
        ):
            self.same(call.asks, [], "nothing asked")

    def check_asks(self, call):
        pending = call.waits + call.data
        old_waits = len(call.waits)
        for at, (word, place, handed, came) in enumerate(call.asks):
            self.need(came not in ("stall", "fault") or at == len(call.asks) - 1, "the last ask of its call")
            eldest = call.cursor - len(call.waits) + len(call.waits + call.data) - len(pending)
            if word == "put":
                self.same(place, eldest, "put at its own place")
                self.same(handed, pending[:len(handed)], "what waits, the eldest ahead")
                self.need(len(handed) >= old_waits, "each put hands all that waits")
                took = 0 if came in ("stall", "fault") else came
                pending, old_waits = pending[took:], max(0, old_waits - took)
                self.turn()
            elif word == "go":
                self.need(not pending or handed == eldest, "no go but to the eldest")
            elif word == "cut":
                self.need(call.word == "cut" and not pending, "only cut asks a cut")
            else:
                self.need(call.word in READING and not pending, "only reading calls ask takes")
                self.check_take(call, place, handed, came)
        takes, goes = words_of(call.asks).count("take"), words_of(call.asks).count("go")
        self.need(call.word not in ("read_some", "peek") or takes <= 1, "one take at most")
        self.need(call.word != "seek" or goes <= 2, "two goes at most")
        self.check_bound(call)

    def check_take(self, call, place, many, came):
        self.need(not enough(call.word, call.count, self.known), "no take where enough is known")
        ends = (call.cursor, call.cursor + len(self.known), call.cursor + len(self.kept))
        self.need(place in ends, "a take begins at the cursor or behind what was brought")
        self.need(many >= self.room, "each take asks for a room at least")
        if came in ("stall", "fault"):
            return
        places = set(range(place, place + len(came)))
        self.need(not places & self.brought, "no place is taken twice")
        self.brought |= places
        if place == call.cursor + len(self.known):
            self.known = self.known + came
        if place == call.cursor + len(self.kept):
            self.kept = self.kept + came
        else:
            self.kept = list(self.known)

    def check_bound(self, call):
        if call.word not in READING:
            self.runs = []
            return
        size = len(self.device)
        self.runs.append([max(0, size - call.cursor), 0, size])
        for word, place, many, came in call.asks:
            if word == "take":
                more = came in ("stall", "fault") or (len(came) < many and place + len(came) < size)
                for run in self.runs:
                    run[1] += 0 if more else 1
        for n, takes, _ in self.runs:
            self.need(n == 0 or takes <= n // self.room + 2, "few takes")

    def check_answer(self, call):
        if call.last == "fault":
            number = self.fault_number(call)
            taken = call.answer[2]["taken"] if call.answer[0] == "refused" else None
            self.same(call.answer, refused("Fault", number=number, taken=taken), "the fault goes on")
            self.need(taken == 0 or call.word == "write", "taken is 0")
        elif call.last == "stall" and call.asks[-1][0] == "put":
            self.check_stalled_put(call)
        elif call.last == "stall":
            self.check_stalled_take(call)
        elif call.word in ("read_some", "peek"):
            due, answer = call.due[1], call.answer[1]
            self.same(call.answer, told(due[:len(answer or [])]), "a beginning")
            self.need(answer or not due, "one byte at least where one is there")
        else:
            self.same(call.answer, call.due, "the due")
        if call.word in READING and call.answer == told([]):
            self.need(call.count == 0 or call.told_end, "[] only where a take of that call told the end")

    def fault_number(self, call):
        return -self.plan[call.asked + len(call.asks) - 1]

    def check_stalled_put(self, call):
        if call.word != "write":
            self.same(call.answer, STALLED, "a put stalled")
        elif call.answer[0] == "refused":
            taken = call.answer[2]["taken"]
            self.same(call.answer, refused("Stalled", taken=taken), "a put stalled")
            self.need(taken < len(call.data), "not all are in")
            self.same(len(self.file.waiting()), self.room, "a room full waits")
        else:
            self.same(call.answer, call.due, "all are in")

    def check_stalled_take(self, call):
        self.same(call.answer[0], "told", "a take stalled")
        due, answer = call.due[1], call.answer[1]
        self.same(answer, due[:len(answer or [])] or None, "a beginning of the due, or None")
        self.need(len(answer or []) >= min(len(due), len(self.known)), "all that is known is told")

    def follow(self, call):
        """Do to the plain file what the call did, and reckon what is known and what waits behind it."""
        many_in = 0
        if call.word == "write":
            many_in = len(call.data) if call.answer[0] == "told" else call.answer[2]["taken"]
            self.need(0 <= many_in <= len(call.data), "taken of the handed ones")
            self.plain.write(call.data[:many_in])
            self.all_in += call.data[:many_in]
            if call.data:
                self.forget()
        self.all_put += call.put_bytes
        if call.answer[0] == "refused":
            return
        if call.word in READING and call.word != "peek":
            many = len(call.answer[1] or [])
            self.plain.seek(many, start="here")
            self.runs = [run for run in self.runs if self.plain.tell() < run[2]]
            self.known, self.kept = self.known[many:], self.kept[many:]
        elif call.word == "seek" and call.answer[1] != call.cursor:
            self.plain.seek(call.answer[1])
            self.forget()
        elif call.word == "cut":
            self.plain.cut(*call.handed)
            self.forget()

    def forget(self):
        self.turn()
        self.kept = []

    def check_state(self):
        waits, cursor = self.file.waiting(), self.file.tell()
        self.need(len(waits) <= self.room, "at most a room full waits")
        self.same(cursor, self.plain.tell(), "the cursor")
        self.same(laid(self.device.content(), cursor - len(waits), waits), self.plain.row(), "the row")
        self.same(self.all_put + waits, self.all_in, "each byte once, in its order")
        if self.device.seeks():
            self.same(self.file.size(), self.plain.size(), "the size")
        self.same((self.file.closed(), self.file.busy(), self.file.lost()), (False, False, []), "questions")


CODES = ("plain", "steps", "wide", "turn")
WAYS = ("any", "kept", "feed", "return", "both")
WRONGS = ("strict", "mark")


def steps_bytes(sign):
    """The writing of a sign in steps, reckoned by bits."""
    if sign < 128:
        return [sign]
    many = 2 if sign < 2 ** 11 else 3 if sign < 2 ** 16 else 4
    lead = {2: 0b11000000, 3: 0b11100000, 4: 0b11110000}[many]
    tail = [0b10000000 | (sign >> 6 * k & 0b111111) for k in range(many - 1)]
    return [lead | sign >> 6 * (many - 1)] + tail[::-1]


def model_signs(row, place, state, code):
    """Every sign and wrong byte of a row from a place on: tuples (sign or None where it is wrong, place, state)."""
    found = []
    while True:
        begin, page = place, state
        if code == "turn":
            while begin < len(row) and row[begin] > 127:
                page = row[begin] & 127
                begin += 1
        if code == "wide" and page == 0:
            page = 2
            if row[begin:begin + 2] in ([254, 255], [255, 254]):
                page = 2 if row[begin] == 254 else 1
                begin += 2
        if begin >= len(row):
            return found
        sign, many = None, 1
        if code == "plain":
            sign = row[begin]
        elif code == "turn":
            sign = page << 7 | row[begin]
        elif code == "wide" and begin + 1 < len(row):
            first, second = row[begin:begin + 2]
            sign, many = (first << 8 | second if page == 2 else second << 8 | first), 2
        elif code == "steps":
            for length in (1, 2, 3, 4):
                piece = row[begin:begin + length]
                mask = {1: 127, 2: 31, 3: 15, 4: 7}[length]
                worth = piece[0] & mask
                for byte in piece[1:]:
                    worth = worth << 6 | byte & 63
                if len(piece) == length and steps_bytes(worth) == piece:
                    sign, many = worth, length
        place, state = begin + many, page
        found.append((sign, place, state))


def model_items(row, place, state, code, ends, wrong):
    """(the items, the place of the wrong byte that ended them or None)."""
    signs = model_signs(row, place, state, code)
    bad = None
    wrongs = [at for at, item in enumerate(signs) if item[0] is None]
    if wrong == "strict" and wrongs:
        bad = signs[wrongs[0]][1] - 1
        signs = signs[:wrongs[0]]
    if ends == "any":
        joined = []
        for at, (sign, behind, state_there) in enumerate(signs):
            if sign == 10 and at and signs[at - 1][0] == 13:
                joined[-1] = (10, behind, state_there)
            else:
                joined.append((10 if sign == 13 else sign, behind, state_there))
        signs = joined
    return [(65533 if sign is None else sign, behind, there) for sign, behind, there in signs], bad


def ends_there(signs, at, ends):
    """Whether a line ends with this one of the signs."""
    sign = signs[at]
    follower = signs[at + 1] if at + 1 < len(signs) else None
    before = signs[at - 1] if at else None
    return {
        "any": sign == 10, "feed": sign == 10, "return": sign == 13, "both": (before, sign) == (13, 10),
        "kept": sign == 10 or sign == 13 and follower != 10,
    }[ends]


def model_line(items, ends, limit=None):
    """The items up to the first line's end and with it, at most limit."""
    signs = [sign for sign, _, _ in items]
    for at in range(len(signs)):
        if ends_there(signs, at, ends):
            return items[:at + 1][:limit]
    return items[:limit]


def model_lines(row, code, ends, wrong):
    """(the lines of a row that are told, the place of the wrong byte behind them or None)."""
    items, bad = model_items(row, 0, 0, code, ends, wrong)
    lines = []
    while items:
        line = model_line(items, ends)
        if bad is not None and not ends_there([sign for sign, _, _ in items], len(line) - 1, ends):
            break
        lines.append([sign for sign, _, _ in line])
        items = items[len(line):]
    return lines, bad


def mixed_row(random, code, length):
    """A row in which signs, line ends, marks, turning bytes and wrong bytes come close together."""
    row = []
    if code == "wide" and random.random() < 0.7:
        row += random.choice(([254, 255], [255, 254]))
    pieces = {
        "plain": ([10], [13], [13, 10], [65], [200]),
        "steps": ([10], [13], [13, 10], [65], [195, 169], [226, 130, 172], [240, 144, 128, 128], [128], [195], [224, 160],
                  [240, 144, 128], [224, 128], [192, 128], [255]),
        "wide": ([0, 10], [10, 0], [0, 13], [13, 0], [0, 13, 0, 10], [13, 0, 10, 0], [0, 65], [254, 255], [7]),
        "turn": ([10], [13], [13, 10], [65], [128], [129], [13, 128, 10], [13, 129, 128, 10], [129, 10, 128], [255]),
    }[code]
    weights = [5 if piece[0] not in (128, 195, 224, 192, 255, 7) or len(piece) > 2 else 1 for piece in pieces]
    while len(row) < length:
        row += random.choices(pieces, weights)[0]
    return row[:length]


class TextWatch:
    """Makes calls of a text upon a device and asks of each what points 29 to 33 promise."""

    def __init__(self, test, content, *, plan=(), room=8, code="steps", ends="any", wrong="strict"):
        self.test = test
        self.plan = list(plan)
        self.ways = (code, ends, wrong)
        self.device = Device(content, plan=plan)
        self.file = File(self.device, room=room)
        self.text = Text(self.file, code=code, ends=ends, wrong=wrong)
        self.row = list(content)
        self.place, self.state = 0, 0
        self.cookies = [(self.text.tell(), (0, 0))]
        self.known = []
        self.peeked = None
        self.all_in, self.all_put = [], []
        self.changes = 0
        self.story = []

    def need(self, truth, what):
        if not truth:
            self.test.fail((what, self.ways, self.row, self.story[-8:], self.device.log()[-8:]))

    def same(self, one, other, what):
        self.need(one == other, (what, one, other))

    def ask(self, word, *handed):
        return self.ask_of(self.text, word, *handed)

    def ask_of(self, owner, word, *handed):
        """The answer of a call, and its asks; what is known and what was put is reckoned by them."""
        self.asked = len(self.device.log())
        answer = outcome(getattr(owner, word), *handed)
        self.asks = self.device.log()[self.asked:]
        self.story.append((word, handed, answer, self.asks))
        for at, (kind, place, data, came) in enumerate(self.asks):
            self.need(came not in ("stall", "fault") or at == len(self.asks) - 1, "the last ask of its call")
            if kind in ("put", "go"):
                self.known = []
            if kind == "put" and came not in ("stall", "fault"):
                self.all_put += data[:came]
            reach = self.place + len(self.known)
            if kind == "take" and came not in ("stall", "fault") and place <= reach:
                self.known += came[reach - place:]
        self.last = self.asks[-1] if self.asks else (None, None, None, None)
        if self.last[3] == "fault":
            self.number = -self.plan[self.asked + len(self.asks) - 1]
        return answer

    def refused_by_asks(self, answer):
        """Whether an ask refused the call, as a call that first hands on what waits is refused."""
        if self.last[3] == "fault":
            self.same(answer, refused("Fault", number=self.number, taken=0), "the fault goes on")
            return True
        if self.last[3] == "stall" and self.last[0] == "put":
            self.same(answer, STALLED, "a put stalled")
            return True
        return False

    def due_items(self, word, count):
        items, bad = model_items(self.row, self.place, self.state, *self.ways)
        if word == "readline":
            return model_line(items, self.ways[1], count), bad
        return items[:count], bad

    def sure_items(self, word):
        """The sure signs, by the bytes that are known."""
        code, ends, _ = self.ways
        signs = model_signs(self.known, 0, self.state, code)
        wrongs = [at for at, item in enumerate(signs) if item[0] is None]
        signs = signs[:wrongs[0]] if wrongs else signs
        if signs and signs[-1][0] == 13 and (ends == "any" or word == "readline" and ends in ("kept", "both")):
            signs = signs[:-1]
        reach = signs[-1][1] if signs else 0
        # Joined as they are read; the last one is no return that a feed could join.
        return model_items(self.known[:reach], 0, self.state, code, ends, "strict")[0]

    def enough_is_sure(self, word, count):
        sure = self.sure_items(word)
        if count is not None and len(sure) >= count:
            return True
        line = [sign for sign, _, _ in model_line(sure, self.ways[1])]
        if word != "readline" or not line:
            return False
        return {
            "any": line[-1] == 10, "feed": line[-1] == 10, "return": line[-1] == 13, "both": line[-2:] == [13, 10],
            "kept": line[-1] in (10, 13),
        }[self.ways[1]]

    def reading(self, word, *handed):
        count = handed[0] if handed else (1 if word == "peek" else None)
        due, bad = self.due_items(word, count)
        if count is not None and count < 0:
            self.same(self.ask(word, *handed), refused("BadCount"), "below nought")
            return self.same(self.asks, [], "nothing asked")
        waits = self.text.waiting()
        silent = count == 0 or not waits and self.enough_is_sure(word, count)
        silent = silent or word == "read" and count is not None and self.peeked is not None and count <= self.peeked
        self.peeked = None
        answer = self.ask(word, *handed)
        self.need(not silent or not self.asks, "nothing asked")
        self.check_read(word, count, answer, due, bad)
        told_items = due[:len(answer[1])] if answer[0] == "told" and answer[1] else []
        if word == "peek":
            self.peeked = len(told_items) or None
        elif told_items:
            _, place, self.state = told_items[-1]
            self.known = self.known[place - self.place:]
            self.place = place
        self.check_state()
        return answer

    def check_read(self, word, count, answer, due, bad):
        if self.refused_by_asks(answer):
            return
        signs = [sign for sign, _, _ in due]
        due_answer = told(signs) if signs or bad is None or count == 0 else refused("BadCode", at=bad)
        if self.last[3] == "stall":
            if answer == refused("BadCode", at=bad) and due_answer == answer:
                return
            self.need(answer[0] == "told" and answer[1] != [], "None or some signs")
            there = answer[1] or []
            self.same(there, signs[:len(there)], "a beginning of the due")
            self.need(len(there) >= min(len(signs), len(self.sure_items(word))), "all that is sure")
            if word == "readline" and self.ways[1] in ("kept", "both") and there and len(there) < len(signs):
                self.need((there[-1], signs[len(there)]) != (13, 10), "never between a line end's return and feed")
            return
        self.same(answer, due_answer, "the due")
        if answer == told([]) and count != 0:
            self.need(any(kind == "take" and came == [] for kind, _, _, came in self.asks), "[] only by a take's end")

    def write(self, signs):
        code, ends, _ = self.ways
        data, state = write_signs(written_ends(signs, ends=ends), self.state, code=code)
        length = max(len(self.row), self.place + len(data))
        answer = self.ask("write", signs)
        self.same(self.asks, [], "a write asks nothing")
        if signs and length > 4000:
            self.same(answer, refused("TooLong", length=length), "too long")
        else:
            self.same(answer, told(len(signs)), "told is how many")
            if signs:
                self.row = laid(self.row, self.place, data)
                self.place += len(data)
                self.state = state
                self.all_in += data
                self.turn()
                self.changes += 1
        self.check_state()

    def turn(self):
        self.known = []
        self.peeked = None

    def grow(self, data):
        self.story.append(("grow", data))
        self.device.grow(data)
        if data:
            self.turn()
        waits = self.text.waiting()
        self.row = laid(self.device.content(), self.place - len(waits), waits)

    def tell(self):
        self.cookies.append((self.text.tell(), (self.place, self.state)))

    def go(self, number):
        cookie, goal = self.cookies[number]
        waits = self.text.waiting()
        elsewhere = goal != (self.place, self.state)
        answer = self.ask("go", cookie)
        self.need(not self.asks or waits and elsewhere, "nothing asked")
        if not self.refused_by_asks(answer):
            self.same(answer, told(None), "led there")
            if elsewhere:
                self.place, self.state = goal
                self.turn()
        self.check_state()

    def go_end(self):
        answer = self.ask("go_end")
        if self.refused_by_asks(answer):
            pass
        elif self.last[3] == "stall":
            self.same(answer, STALLED, "a take stalled")
        else:
            self.same(answer, told(None), "at the end")
            self.place, self.state = len(self.row), self.state_at_end()
            self.turn()
        self.check_state()
        return answer

    def state_at_end(self):
        """The state behind the whole row: that in which a sign behind it would be read."""
        code = self.ways[0]
        if not self.row:
            return 0
        if code == "wide":
            return 1 if self.row[:2] == [255, 254] else 2
        return ([0] + [byte - 128 for byte in self.row if byte > 127])[-1] if code == "turn" else 0

    def cut(self):
        answer = self.ask("cut")
        if self.refused_by_asks(answer):
            if self.last[0] != "cut":
                self.need(not any(kind == "cut" for kind, _, _, _ in self.asks), "nothing was cut")
        else:
            self.same(answer, told(None), "cut")
            del self.row[self.place:]
            self.changes += 1
            self.turn()
        self.check_state()

    def flush(self):
        waits = self.text.waiting()
        answer = self.ask("flush")
        self.need(waits or not self.asks, "nothing asked")
        if not self.refused_by_asks(answer):
            self.same((answer, self.text.waiting()), (told(None), []), "all is put")
        self.check_state()

    def ask_book(self, book, word, *handed):
        """A question to a book of lines upon the text, held against the row's lines (points 37 and 38)."""
        lines, bad = model_lines(self.row, *self.ways)
        due = told(len(lines)) if bad is None else refused("BadCode", at=bad)
        if word == "line":
            k = handed[0]
            if 0 <= k < len(lines):
                due = told(lines[k])
            elif bad is None or k < 0:
                due = refused("NoLine", at=k)
        answer = self.ask_of(book, word, *handed)
        if not self.refused_by_asks(answer):
            self.need(answer == due or self.last[3] == "stall" and answer == STALLED, ("the due", due))
        self.turn()
        self.check_state()
        return answer

    def check_state(self):
        waits = self.text.waiting()
        self.same(self.text.tell(), (self.place, self.state), "the place")
        self.same(laid(self.device.content(), self.place - len(waits), waits), self.row, "the row")
        self.same(self.all_put + waits, self.all_in, "each byte once, in its order")
        self.same(self.file.waiting(), waits[:len(self.file.waiting())], "what waits in the file is ahead")
        self.same((self.text.changes(), self.text.closed(), self.text.busy(), self.text.lost()),
                  (self.changes, False, False, []), "questions")
