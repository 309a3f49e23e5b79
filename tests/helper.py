"""What several test files share: outcomes of calls, and a watch over a file that holds it against a plain file."""

from sipstack.device import Device
from sipstack.errors import SipError
from sipstack.files import File
from sipstack.plain import Plain
from sipstack.rows import laid

READING = ("read", "read_some", "peek", "readline")


def outcome(call, *handed, **named):
    """("told", what was told), or ("refused", the class's name, the values that the refusal keeps)."""
    try:
        return ("told", call(*handed, **named))
    except SipError as error:
        return ("refused", type(error).__name__, vars(error))


def told(what):
    return ("told", what)


def refused(name, **values):
    return ("refused", name, values)


FAULT_7 = refused("Fault", number=7, taken=0)
STALLED = refused("Stalled", taken=0)


def asks_of(raw, call, *handed, **named):
    """(the outcome of a call, the rows of the raw's log that were added by it)."""
    before = len(raw.log())
    answer = outcome(call, *handed, **named)
    return answer, raw.log()[before:]


def words_of(asks):
    return [word for word, _, _, _ in asks]


def enough(word, count, known):
    """Whether as many bytes are known as a reading call asks for (point 20)."""
    if count == 0:
        return True
    if word == "read":
        return count is not None and len(known) >= count
    if word == "readline":
        return 10 in known[:count] or (count is not None and len(known) >= count)
    return len(known) >= 1


class Call:
    """One call of a file, with all that stood ahead of it and came by it."""

    def __init__(self, watch, word, handed, named):
        self.word = word
        self.handed = handed
        self.waits = watch.file.waiting()
        self.cursor = watch.file.tell()
        due_file = Plain(watch.plain.row(), self.cursor)
        self.due = told(None) if word == "flush" else outcome(getattr(due_file, word), *handed, **named)
        self.data = list(handed[0]) if word == "write" else []
        default = 1 if word == "peek" else None
        self.count = handed[0] if handed else default
        self.asked = len(watch.device.log())
        self.answer = outcome(getattr(watch.file, word), *handed, **named)
        self.asks = watch.device.log()[self.asked:]
        self.put_bytes = [byte for word, _, data, came in self.asks if word == "put" and came not in ("stall", "fault")
                          for byte in data[:came]]
        self.last = self.asks[-1][3] if self.asks else None
        self.told_end = any(word == "take" and came == [] for word, _, _, came in self.asks)


class Watch:
    """Makes calls of a file upon a device and asks of each what points 13 to 20 promise."""

    def __init__(self, test, content, *, plan=(), room=8, seeks=True, reads=True, writes=True):
        self.test = test
        self.plan = list(plan)
        self.room = room
        self.device = Device(content, plan=plan, seeks=seeks)
        self.file = File(self.device, room=room, reads=reads, writes=writes)
        self.plain = Plain(content)
        self.all_in = []
        self.all_put = []
        self.runs = []
        self.kept = []
        self.story = []
        self.turn()

    def turn(self):
        self.known = []
        self.brought = set()

    def need(self, truth, what):
        if not truth:
            self.test.fail((what, self.story[-12:], self.device.log()[-6:]))

    def same(self, one, other, what):
        self.need(one == other, (what, one, other))

    def grow(self, data):
        self.story.append(("grow", data))
        self.device.grow(data)
        self.runs = []
        if data and self.device.seeks():
            self.turn()
        waits, cursor = self.file.waiting(), self.file.tell()
        self.plain = Plain(laid(self.device.content(), cursor - len(waits), waits), cursor)

    def call(self, word, *handed, **named):
        self.story.append((word, handed, named))
        call = Call(self, word, handed, named)
        self.story[-1] += (call.answer,)
        if call.due[0] == "refused" or word in ("tell", "size"):
            self.same(call.answer, call.due, "as the plain file")
            self.same(call.asks, [], "nothing asked")
        else:
            self.check_nothing_asked(call)
            self.check_asks(call)
            self.check_answer(call)
            self.follow(call)
        self.check_state()
        return call.answer

    def check_nothing_asked(self, call):
        word = call.word
        if (
            (word in READING and enough(word, call.count, self.known))
            or (word == "write" and (not call.data or len(call.waits) + len(call.data) <= self.room))
            or (word == "seek" and call.due == told(call.cursor))
            or (word == "flush" and not call.waits)
        ):
            self.same(call.asks, [], "nothing asked")

    def check_asks(self, call):
        pending = call.waits + call.data
        old_waits = len(call.waits)
        for at, (word, place, handed, came) in enumerate(call.asks):
            self.need(came not in ("stall", "fault") or at == len(call.asks) - 1, "the last ask of its call")
            eldest = call.cursor - len(call.waits) + len(call.waits + call.data) - len(pending)
            if word == "put":
                self.same(place, eldest, "put at its own place")
                self.same(handed, pending[:len(handed)], "what waits, the eldest ahead")
                self.need(len(handed) >= old_waits, "each put hands all that waits")
                took = 0 if came in ("stall", "fault") else came
                pending, old_waits = pending[took:], max(0, old_waits - took)
                self.turn()
            elif word == "go":
                self.need(not pending or handed == eldest, "no go but to the eldest")
            elif word == "cut":
                self.need(call.word == "cut" and not pending, "only cut asks a cut")
            else:
                self.need(call.word in READING and not pending, "only reading calls ask takes")
                self.check_take(call, place, handed, came)
        takes, goes = words_of(call.asks).count("take"), words_of(call.asks).count("go")
        self.need(call.word not in ("read_some", "peek") or takes <= 1, "one take at most")
        self.need(call.word != "seek" or goes <= 2, "two goes at most")
        self.check_bound(call)

    def check_take(self, call, place, many, came):
        self.need(not enough(call.word, call.count, self.known), "no take where enough is known")
        ends = (call.cursor, call.cursor + len(self.known), call.cursor + len(self.kept))
        self.need(place in ends, "a take begins at the cursor or behind what was brought")
        self.need(many >= self.room, "each take asks for a room at least")
        if came in ("stall", "fault"):
            return
        places = set(range(place, place + len(came)))
        self.need(not places & self.brought, "no place is taken twice")
        self.brought |= places
        if place == call.cursor + len(self.known):
            self.known = self.known + came
        if place == call.cursor + len(self.kept):
            self.kept = self.kept + came
        else:
            self.kept = list(self.known)

    def check_bound(self, call):
        if call.word not in READING:
            self.runs = []
            return
        size = len(self.device)
        self.runs.append([max(0, size - call.cursor), 0, size])
        for word, place, many, came in call.asks:
            if word == "take":
                more = came in ("stall", "fault") or (len(came) < many and place + len(came) < size)
                for run in self.runs:
                    run[1] += 0 if more else 1
        for n, takes, _ in self.runs:
            self.need(n == 0 or takes <= n // self.room + 2, "few takes")

    def check_answer(self, call):
        if call.last == "fault":
            number = -self.plan[call.asked + len(call.asks) - 1]
            taken = call.answer[2]["taken"] if call.answer[0] == "refused" else None
            self.same(call.answer, refused("Fault", number=number, taken=taken), "the fault goes on")
            self.need(taken == 0 or call.word == "write", "taken is 0")
        elif call.last == "stall" and call.asks[-1][0] == "put":
            self.check_stalled_put(call)
        elif call.last == "stall":
            self.check_stalled_take(call)
        elif call.word in ("read_some", "peek"):
            due, answer = call.due[1], call.answer[1]
            self.same(call.answer, told(due[:len(answer or [])]), "a beginning")
            self.need(answer or not due, "one byte at least where one is there")
        else:
            self.same(call.answer, call.due, "the due")
        if call.word in READING and call.answer == told([]):
            self.need(call.count == 0 or call.told_end, "[] only where a take of that call told the end")

    def check_stalled_put(self, call):
        if call.word != "write":
            self.same(call.answer, STALLED, "a put stalled")
        elif call.answer[0] == "refused":
            taken = call.answer[2]["taken"]
            self.same(call.answer, refused("Stalled", taken=taken), "a put stalled")
            self.need(taken < len(call.data), "not all are in")
            self.same(len(self.file.waiting()), self.room, "a room full waits")
        else:
            self.same(call.answer, call.due, "all are in")

    def check_stalled_take(self, call):
        self.same(call.answer[0], "told", "a take stalled")
        due, answer = call.due[1], call.answer[1]
        self.same(answer, due[:len(answer or [])] or None, "a beginning of the due, or None")
        self.need(len(answer or []) >= min(len(due), len(self.known)), "all that is known is told")

    def follow(self, call):
        """Do to the plain file what the call did, and reckon what is known and what waits behind it."""
        many_in = 0
        if call.word == "write":
            many_in = len(call.data) if call.answer[0] == "told" else call.answer[2]["taken"]
            self.need(0 <= many_in <= len(call.data), "taken of the handed ones")
            self.plain.write(call.data[:many_in])
            self.all_in += call.data[:many_in]
            if call.data:
                self.forget()
        self.all_put += call.put_bytes
        if call.answer[0] == "refused":
            return
        if call.word in READING and call.word != "peek":
            many = len(call.answer[1] or [])
            self.plain.seek(many, start="here")
            self.runs = [run for run in self.runs if self.plain.tell() < run[2]]
            self.known, self.kept = self.known[many:], self.kept[many:]
        elif call.word == "seek" and call.answer[1] != call.cursor:
            self.plain.seek(call.answer[1])
            self.forget()
        elif call.word == "cut":
            self.plain.cut(*call.handed)
            self.forget()

    def forget(self):
        self.turn()
        self.kept = []

    def check_state(self):
        waits, cursor = self.file.waiting(), self.file.tell()
        self.need(len(waits) <= self.room, "at most a room full waits")
        self.same(cursor, self.plain.tell(), "the cursor")
        self.same(laid(self.device.content(), cursor - len(waits), waits), self.plain.row(), "the row")
        self.same(self.all_put + waits, self.all_in, "each byte once, in its order")
        if self.device.seeks():
            self.same(self.file.size(), self.plain.size(), "the size")
        self.same((self.file.closed(), self.file.busy(), self.file.lost()), (False, False, []), "questions")
