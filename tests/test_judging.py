"""Point 42: the judge."""

import copy
import random
import unittest

from sipstack.device import Device
from sipstack.errors import SipError, Stalled
from sipstack.files import File
from sipstack.judging import judged
from sipstack.playing import play

TOLD = ("told", None)
STALLED = ("refused", "Stalled", None, 0)
FAULT = ("refused", "Fault", 7, 0)


def some_call(chance, room):
    count = chance.choice((None, 0, 1, 2, room, room + 1, 3 * room, -1))
    number = 1 if count is None else count
    data = [chance.choice((10, chance.randrange(256))) for _ in range(chance.choice((0, 1, 2, room, 2 * room + 1)))]
    kinds = (
        ("read", count), ("read", count), ("read_some", number), ("peek", number), ("readline", count), ("readline", None),
        ("write", data), ("write", data), ("write", data + [chance.choice((256, True, 9))]), ("tell",), ("flush",),
        ("seek", chance.randint(-3, 30), chance.choice(("head", "here", "tail", "x", "head"))), ("seek", 0, "here"),
        ("seek", chance.randint(0, 30), "head"), ("cut", chance.choice((None, -1, 4001, chance.randint(0, 30)))),
        ("grow", chance.choice(([], [10], [1, 2, 3]))),
    )
    return chance.choice(kinds)


def some_play(seed, kind=File, numbers=(0, -3, 1, 2, 3, 400)):
    chance = random.Random(seed)
    content = [chance.choice((10, chance.randrange(256))) for _ in range(chance.randint(0, 40))]
    room = chance.choice((1, 2, 3, 8, 64))
    device = Device(content, plan=[chance.choice(numbers) for _ in range(chance.choice((0, 20, 100)))])
    calls = [some_call(chance, room) for _ in range(50)]
    if chance.random() < 0.3:
        calls.insert(chance.randint(20, 50), ("close",))
    file = kind(device, room=room)
    file.chance = chance
    return content, room, play(file, device, calls)


class OtherFile(File):
    """Keeps points 13 to 19 and asks otherwise: puts in parts and early, small takes, goes that need not be."""

    def put_down_to(self, most):
        while len(self.waits) > most or self.waits and most and len(self.waits) > self.room - 1:
            if self.chance.random() < 0.3:
                self.raw.go(self.cursor - len(self.waits))
            self.lead(self.cursor - len(self.waits))
            took = self.raw.put(self.waits[:self.chance.randint(1, len(self.waits))])
            if took is None:
                if len(self.waits) <= most:
                    return
                raise Stalled()
            del self.waits[:took]

    def write(self, data):
        if len(self.waits) + len(data) <= self.room:
            self.check_writing(data)
            if data:
                self.known = []
                self.waits.extend(data)
                self.cursor += len(data)
            return len(data)
        return File.write(self, data)

    def bring(self, wanted):
        if self.chance.random() < 0.3:
            self.raw.go(self.chance.randint(0, 50))
        self.lead(self.cursor + len(self.known))
        came = self.raw.take(self.chance.choice((1, 2, 5, 100)))
        if came:
            self.known.extend(came)
        self.seen_size = self.raw.size()
        return came

    def seek(self, place, *, start="head"):
        before, known = self.tell(), self.known
        goal = File.seek(self, place, start=start)
        if goal != before:
            try:
                self.raw.go(goal)
            except SipError:
                self.cursor, self.known = before, known
                raise
        return goal


class Good(unittest.TestCase):
    def test_what_a_play_noted(self):
        for seed in range(500):
            content, room, history = some_play(seed)
            self.assertIsNone(judged(content, room, history), (seed, history))

    def test_what_another_file_makes(self):
        for seed in range(500):
            content, room, history = some_play(seed, OtherFile)
            bad = judged(content, room, history)
            self.assertIsNone(bad, (seed, history[max(0, (bad or 0) - 3):(bad or 0) + 1]))

    def test_nothing(self):
        self.assertIsNone(judged([1, 2], 8, []))

    def test_handed_lists_are_not_changed(self):
        content, room, history = some_play(3)
        before = copy.deepcopy((content, history))
        judged(content, room, history)
        judged(content, room, history)
        self.assertEqual((content, history), before)
        content = [1, 2, 3]
        for call, ask in ((("grow", [4]), []), (("cut", 1), [("cut", 0, 1, 0)])):
            self.assertIsNone(judged(content, 2, [(call, TOLD, ask)]))
            self.assertEqual(content, [1, 2, 3])


class Cases(unittest.TestCase):
    """Rows of tuples upon the row 1 2 10 4 5 and a file with room 2, but where another one is named."""

    def good(self, *history, content=(1, 2, 10, 4, 5), room=2):
        self.assertIsNone(judged(list(content), room, list(history)))

    def bad(self, *history, content=(1, 2, 10, 4, 5), room=2):
        """The last tuple is bad, and none ahead of it."""
        self.assertEqual(judged(list(content), room, list(history) + [(("tell",), ("told", 77), [])]), len(history) - 1)

    def test_takes(self):
        take = ("read", 2)
        for came in ([1], [1, 2], [1, 2, 10]):
            rest = [("take", len(came), 9, [1, 2, 10, 4, 5][len(came):])] if len(came) < 2 else []
            self.good((take, ("told", [1, 2]), [("take", 0, 3, came)] + rest))
        self.bad((take, ("told", [1, 2]), [("take", 0, 3, [1, 2, 10, 4])]))
        self.bad((take, ("told", [1, 3]), [("take", 0, 3, [1, 3])]))
        self.bad((take, ("told", [1, 2]), [("take", 0, 3, [1, 3])]))
        self.bad((take, ("told", [1, 2]), [("take", 1, 3, [2, 10])]))
        self.bad((take, ("told", []), [("take", 0, 3, [])]))
        self.bad((take, ("told", [1, 2]), []))
        self.bad((take, ("told", [1]), [("take", 0, 3, [1])]))
        self.bad((take, ("told", [1, 2]), [("take", 0, 0, [1, 2])]))
        self.good((take, ("told", [1, 2]), [("take", 0, 1, [1]), ("take", 1, 1, [2])]))
        self.bad((take, ("told", [1, 2]), [("take", 0, 1, [1, 2])]))
        self.bad((take, ("told", [1, 2]), [("take", 0, 9, [1]), ("take", 0, 9, [2])]))
        self.bad((take, ("told", None), [("take", 0, 9, [1])]))
        self.bad((take, ("refused", "Stalled", None, 0), [("take", 0, 9, "stall")]))
        self.bad((take, ("told", [1, 2]), [("take", 0, 9, "stall"), ("take", 0, 9, [1, 2])]))
        self.bad((take, FAULT, [("take", 0, 9, "fault"), ("take", 0, 9, "fault")]))
        one = (("read", 1), ("told", [1]), [("take", 0, 1, [1])])
        back = (("seek", 0, "head"), ("told", 0), [])
        self.bad(one, back, (("read", 1), ("told", [1]), [("go", 1, 0, 0), ("take", 0, 1, [2])]))
        self.bad(one, back, (("read", 1), ("told", [1]), [("go", 1, 5, 0), ("take", 5, 0, [])]))
        self.good(one, back, (("read", 1), ("told", [1]), [("go", 1, 5, 0), ("take", 5, 1, [])]))
        for number in (None, 0, -1, True):
            self.bad((take, ("refused", "Fault", number, 0), [("take", 0, 9, "fault")]))
        for number in (1, 2, 99):
            self.good((take, ("refused", "Fault", number, 0), [("take", 0, 9, "fault")]))

    def test_goes(self):
        go = ("go", 0, 3, 0)
        self.good((("read", 2), ("told", [1, 2]), [go, ("go", 3, 0, 0), ("take", 0, 9, [1, 2])]))
        self.good((("read", 2), ("told", [1, 2]), [("take", 0, 2, [1, 2]), ("go", 2, 4000, 0)]))
        self.bad((("read", 2), ("told", [1, 2]), [("take", 0, 2, [1, 2]), ("go", 2, 4001, 0)]))
        self.bad((("read", 2), ("told", [1, 2]), [("take", 0, 2, [1, 2]), ("go", 2, -1, 0)]))
        self.bad((("read", 2), ("told", [1, 2]), [("take", 0, 2, [1, 2]), ("go", 2, 1, 1)]))
        self.bad((("read", 2), ("told", None), [("go", 0, 3, "stall")]))
        self.bad((("read", 2), STALLED, [("go", 0, 3, "stall")]))
        self.good((("read", 2), FAULT, [("go", 0, 3, "fault")]), (("read", 1), ("told", [1]), [("take", 0, 1, [1])]))
        self.bad((("read", 2), FAULT, [("go", 0, 3, "fault")]), (("read", 1), ("told", [1]), [("take", 3, 1, [1])]))

    def test_bytes_that_were_taken_elsewhere_are_no_known_ones(self):
        self.good((("read", 1), ("told", [1]), [("go", 0, 1, 0), ("take", 1, 1, [2]), ("go", 2, 0, 0), ("take", 0, 1, [1])]))
        self.bad((("read", 1), ("told", [1]), [("go", 0, 1, 0), ("take", 1, 1, [2])]))
        # Place 1 is known by now.
        self.bad((("read", 1), ("told", [1]), [("go", 0, 1, 0), ("take", 1, 1, [2]), ("go", 2, 0, 0), ("take", 0, 1, [1])]),
                 (("read", 1), ("told", [2]), [("take", 1, 1, [2])]))

    def test_stalls_of_takes(self):
        stall = ("take", 0, 9, "stall")
        for word in ("read", "read_some", "peek", "readline"):
            self.good(((word, 3), ("told", None), [stall]))
            self.bad(((word, 3), ("told", []), [stall]))
            self.bad(((word, 3), ("told", [1]), [stall]))
        taken = [("take", 0, 9, [1, 2]), ("take", 2, 9, "stall")]
        self.good((("read", 4), ("told", [1, 2]), taken))
        self.bad((("read", 4), ("told", [1]), taken))
        self.bad((("read", 4), ("told", None), taken))
        self.bad((("read", 4), ("told", [1, 2, 10]), taken))
        self.good((("read", 4), ("told", [1, 2]), taken), (("tell",), ("told", 2), []))
        self.good((("peek", 4), ("told", [1, 2]), taken), (("tell",), ("told", 0), []))
        self.bad((("peek", 4), ("told", [1]), taken))
        self.good((("readline", None), ("told", [1, 2]), taken))
        self.bad((("read", 4), ("told", [1, 2]), [stall, ("take", 0, 9, [1, 2])]))

    def test_a_stall_behind_enough(self):
        taken = [("take", 0, 9, [1, 2]), ("take", 2, 9, "stall")]
        self.good((("read", 1), ("told", [1]), taken))
        self.bad((("read", 1), ("told", None), taken))

    def test_what_a_file_had_once_it_may_tell_again(self):
        first = (("read", 3), ("told", [1, 2, 10]), [("take", 0, 3, [1, 2, 10])])
        back = (("seek", 0, "head"), ("told", 0), [])
        self.good(first, back, (("read", 3), ("told", [1, 2, 10]), []))
        self.good(first, back, (("read", 3), ("told", [1, 2, 10]), [("go", 3, 0, 0), ("take", 0, 3, [1, 2, 10])]))
        self.good(first, back, (("readline", None), ("told", [1, 2, 10]), []))
        self.bad(first, back, (("read", 4), ("told", [1, 2, 10, 4]), []))
        self.good(first, back, (("read_some", 4), ("told", [1]), []))
        self.good(first, back, (("read", 4), ("told", [1, 2, 10]), [("take", 3, 9, "stall")]))
        self.bad(first, back, (("read", 4), ("told", [1, 2, 10, 4]), [("take", 3, 9, "stall")]))

    def test_what_a_file_wrote_it_may_tell(self):
        wrote = (("write", [7, 8, 9]), ("told", 3), [("put", 0, [7, 8, 9], 3)])
        back = (("seek", 0, "head"), ("told", 0), [])
        self.good(wrote, back, (("read", 3), ("told", [7, 8, 9]), []))
        self.bad(wrote, back, (("read", 4), ("told", [7, 8, 9, 4]), []))
        self.bad(wrote, back, (("read", 3), ("told", [1, 2, 10]), []))

    def test_noughts_of_a_gap_are_the_files_own(self):
        far = (("seek", 7, "head"), ("told", 7), [])
        wrote = (("write", [9]), ("told", 1), [])
        flushed = (("flush",), TOLD, [("go", 0, 7, 0), ("put", 7, [9], 1)])
        self.good(far, wrote, flushed, (("seek", 5, "head"), ("told", 5), []), (("read", 3), ("told", [0, 0, 9]), []))
        self.bad(far, wrote, flushed, (("seek", 4, "head"), ("told", 4), []), (("read", 4), ("told", [5, 0, 0, 9]), []))
        self.bad(far, wrote, flushed, (("grow", [6]), TOLD, []), (("read", 1), ("told", [6]), []))

    def test_what_was_cut_off_and_grown_anew_are_other_bytes(self):
        first = (("read", 5), ("told", [1, 2, 10, 4, 5]), [("take", 0, 9, [1, 2, 10, 4, 5])])
        cut = (("cut", 3), TOLD, [("cut", 5, 3, 0)])
        grown = (("grow", [4, 5]), TOLD, [])
        back = (("seek", 2, "head"), ("told", 2), [])
        self.bad(first, cut, grown, back, (("read", 2), ("told", [10, 4]), []))
        self.good(first, cut, grown, back, (("read", 1), ("told", [10]), []))
        self.good(first, cut, grown, back, (("read", 2), ("told", [10, 4]), [("go", 5, 3, 0), ("take", 3, 1, [4])]))

    def test_the_end(self):
        first = (("read", None), ("told", [1, 2, 10, 4, 5]), [("take", 0, 9, [1, 2, 10, 4, 5])])
        for word in ("read", "read_some", "peek", "readline"):
            self.good(first, ((word, 1), ("told", []), [("take", 5, 9, [])]))
            self.bad(first, ((word, 1), ("told", []), []))
            self.bad(first, ((word, 1), ("told", None), [("take", 5, 9, [])]))
            self.bad(first, ((word, 1), ("told", []), [("take", 5, 9, "stall")]))
            self.good(first, ((word, 1), ("told", None), [("take", 5, 9, "stall")]))
            self.good(((word, 0), ("told", []), []))
            self.bad(((word, 0), ("told", None), []))
            self.bad(((word, 0), ("told", []), [("take", 0, 9, "stall")]))
            self.good((("grow", []), TOLD, []), ((word, 0), ("told", []), []), content=())
        self.bad(first, (("read", 1), ("told", [6]), [("take", 5, 9, [6])]))
        self.bad(first, (("read", 1), ("told", []), [("take", 5, 9, [])]), (("read", 1), ("told", []), []))
        self.bad(first, (("read", 1), ("told", []), [("go", 5, 0, 0), ("take", 0, 9, [1])]))
        self.good(first, (("grow", [6]), TOLD, []), (("read", 1), ("told", [6]), [("take", 5, 9, [6])]))
        self.bad(first, (("grow", [6]), TOLD, []), (("read", 1), ("told", []), [("take", 5, 9, [])]))

    def test_some_and_peek_may_tell_fewer(self):
        taken = [("take", 0, 9, [1, 2, 10])]
        for word in ("read_some", "peek"):
            for told in ([1], [1, 2], [1, 2, 10]):
                self.good(((word, 3), ("told", told), taken))
            self.bad(((word, 3), ("told", []), taken))
            self.bad(((word, 3), ("told", [1, 2, 10, 4]), taken))
            self.bad(((word, 2), ("told", [1, 2, 10]), taken))
        self.bad((("readline", None), ("told", [1, 2]), taken))
        self.good((("readline", None), ("told", [1, 2, 10]), taken))
        self.good((("readline", 2), ("told", [1, 2]), taken))
        self.bad((("readline", 2), ("told", [1, 2, 10]), taken))
        self.good((("read_some", 2), ("told", [1]), taken), (("tell",), ("told", 1), []))
        self.bad((("read_some", 2), ("told", [1]), taken), (("tell",), ("told", 2), []))

    def test_known_bytes_are_told_without_asking(self):
        first = (("peek", 1), ("told", [1]), [("take", 0, 9, [1, 2, 10, 4])])
        more = [("take", 4, 9, [5])]
        for word, count, due in (("read", 4, [1, 2, 10, 4]), ("read", 2, [1, 2]), ("read_some", 9, [1, 2]), ("peek", 9, [1]),
                                 ("readline", None, [1, 2, 10]), ("readline", 2, [1, 2])):
            self.good(first, ((word, count), ("told", due), []))
            self.bad(first, ((word, count), ("told", due), more))
            self.bad(first, ((word, count), ("told", due), [("go", 4, 0, 0)]))
            self.bad(first, ((word, count), ("told", None), [("take", 4, 9, "stall")]))
        lone = (("peek", 1), ("told", [1]), [("take", 0, 9, [1])])
        for word in ("read_some", "peek"):
            self.good(lone, ((word, 3), ("told", [1]), []))
            self.bad(lone, ((word, 3), ("told", [1, 2]), [("take", 1, 9, [2])]))
        self.good(first, (("read", 5), ("told", [1, 2, 10, 4, 5]), more))
        self.good(first, (("read", None), ("told", [1, 2, 10, 4, 5]), more))
        self.good(first, (("read", 5), FAULT, [("take", 4, 9, "fault")]), (("read", 4), ("told", [1, 2, 10, 4]), []))
        self.bad(first, (("read", 5), FAULT, [("take", 4, 9, "fault")]), (("read", 4), ("told", [1, 2, 10, 4]), more))

    def test_turns(self):
        first = (("peek", 1), ("told", [1]), [("take", 0, 9, [1, 2, 10])])
        again = (("read", 1), ("told", [1]), [("go", 3, 0, 0), ("take", 0, 1, [1])])
        self.bad(first, again)
        self.good(first, (("grow", [6]), TOLD, []), again)
        self.bad(first, (("grow", []), TOLD, []), again)
        self.good(first, (("cut", 4), TOLD, [("cut", 3, 4, 0)]), again)
        self.good(first, (("cut", 5), TOLD, []), again)
        self.good(first, (("cut", 9), FAULT, [("cut", 3, 9, 0), ("go", 3, 0, "fault")]), again)
        self.bad(first, (("cut", 4), FAULT, [("cut", 3, 4, "fault")]), again)
        self.good(first, (("seek", 1, "head"), ("told", 1), []), (("seek", 0, "head"), ("told", 0), []), again)
        self.bad(first, (("seek", 0, "head"), ("told", 0), []), again)
        self.bad(first, (("write", []), ("told", 0), []), again)
        self.bad(first, (("write", [256]), ("refused", "NotByte", 0, 0), []), again)
        self.bad(first, (("seek", 4, "head"), FAULT, [("go", 3, 4, "fault")]), again)
        self.good(first, (("write", [7]), ("told", 1), []),
                  (("read", 1), ("told", [2]), [("go", 3, 0, 0), ("put", 0, [7], 1), ("take", 1, 1, [2])]))
        self.good(first, (("write", [7, 8, 9]), ("refused", "Fault", 7, 0), [("go", 3, 0, "fault")]), again)

    def test_writes(self):
        data = [7, 8, 9]
        write = ("write", data)
        self.good((("write", [7, 8]), ("told", 2), []), (("tell",), ("told", 2), []))
        self.bad((("write", [7, 8]), ("told", 2), [("put", 0, [7, 8], 2)]))
        self.bad((("write", [7, 8]), ("told", 1), []))
        self.bad((("write", [7, 8]), STALLED, []))
        self.bad((write, ("told", 3), []))
        for handed, took in (([7], 1), (data, 1), (data, 2), (data, 3), ([7, 8], 2)):
            self.good((write, ("told", 3), [("put", 0, handed, took)]))
        self.bad((write, ("told", 3), [("put", 0, data, 0)]))
        self.bad((write, ("told", 3), [("put", 0, data, 4)]))
        self.bad((write, ("told", 3), [("put", 0, data, 0), ("put", 0, data, 3)]))
        self.bad((write, ("told", 3), [("put", 0, [8], 1)]))
        self.bad((write, ("told", 3), [("put", 0, [], 1)]))
        self.bad((write, ("told", 3), [("put", 0, data + [1], 1)]))
        self.bad((write, ("told", 3), [("put", 1, data, 3)]))
        self.bad((write, ("told", 3), [("go", 0, 1, 0), ("put", 1, data, 3)]))
        self.bad((write, ("told", 3), [("go", 0, 1, 0), ("go", 1, 0, 0), ("put", 0, data, 3)]))
        self.good((write, ("told", 3), [("go", 0, 0, 0), ("put", 0, data, 3), ("go", 3, 1, 0)]))
        self.bad((write, ("told", 3), [("put", 0, data, 2), ("go", 2, 1, 0)]))
        self.bad((write, ("told", 3), [("put", 0, data, 3), ("take", 3, 2, [4, 5])]))
        self.good((write, ("told", 3), [("put", 0, [7, 8], 1), ("put", 1, [8, 9], 1), ("put", 2, [9], 1)]))
        self.bad((write, ("told", 3), [("put", 0, [7, 8], 1), ("put", 1, [9], 1)]))

    def test_writes_that_stall(self):
        data = [7, 8, 9, 6]
        write = ("write", data)
        stalled = [("put", 0, data, "stall")]
        self.good((write, ("refused", "Stalled", None, 2), stalled), (("tell",), ("told", 2), []))
        for answer in (("told", 4), STALLED, ("refused", "Stalled", None, 1), ("refused", "Stalled", None, 3), FAULT):
            self.bad((write, answer, stalled))
        one = [("put", 0, data, 1), ("put", 1, data[1:], "stall")]
        self.good((write, ("refused", "Stalled", None, 3), one))
        self.bad((write, ("refused", "Stalled", None, 2), one))
        two = [("put", 0, data, 2), ("put", 2, data[2:], "stall")]
        self.good((write, ("told", 4), two))
        self.bad((write, ("refused", "Stalled", None, 4), two))
        self.bad((write, ("refused", "Stalled", None, 3), two))
        waits = (("write", [1]), ("told", 1), [])
        stalled = [("put", 0, [1] + data, "stall")]
        self.good(waits, (write, ("refused", "Stalled", None, 1), stalled))
        self.bad(waits, (write, ("refused", "Stalled", None, 2), stalled))
        self.bad(waits, (write, ("refused", "Stalled", None, 1), [("put", 1, data, "stall")]))

    def test_writes_that_fail(self):
        data = [7, 8, 9, 6]
        write = ("write", data)
        failed = [("put", 0, data, 1), ("put", 1, data[1:], "fault")]
        for taken in (1, 2, 3):
            self.good((write, ("refused", "Fault", 7, taken), failed), (("tell",), ("told", taken), []))
            self.bad((write, ("refused", "Fault", 7, taken), failed), (("flush",), TOLD, [("put", 1, data[1:], 3)]))
        for taken in (-1, 0, 4):
            self.bad((write, ("refused", "Fault", 7, taken), failed))
        self.bad((write, ("refused", "Fault", 0, 1), failed))
        self.bad((write, ("refused", "Fault", -7, 1), failed))
        self.good((write, ("refused", "Fault", 1000, 1), failed))
        self.good((write, ("refused", "Fault", 7, 2), failed), (("flush",), TOLD, [("put", 1, [8], 1)]))
        self.good((write, ("refused", "Fault", 7, 1), failed), (("flush",), TOLD, []))
        self.bad((write, ("refused", "Fault", 7, 2), failed), (("flush",), TOLD, []))
        all_in = [("put", 0, data, 4), ("go", 4, 0, "fault")]
        self.good((write, ("refused", "Fault", 7, 4), all_in))
        self.bad((write, ("refused", "Fault", 7, 3), all_in))
        self.bad((write, ("told", 4), all_in))

    def test_what_waits_is_put_first(self):
        waits = (("write", [7, 8]), ("told", 2), [])
        put = ("put", 0, [7, 8], 2)
        for call, told in ((("read", 1), [10]), (("peek", 1), [10]), (("readline", 1), [10]), (("read_some", 1), [10])):
            self.good(waits, (call, ("told", told), [put, ("take", 2, 1, [10])]))
            self.bad(waits, (call, ("told", told), [("go", 0, 2, 0), ("take", 2, 1, [10])]))
            self.bad(waits, (call, ("told", told), [("put", 0, [7], 1), ("go", 1, 2, 0), ("take", 2, 1, [10])]))
            self.good(waits, (call, STALLED, [("put", 0, [7, 8], "stall")]), (("tell",), ("told", 2), []))
            self.bad(waits, (call, ("told", None), [("put", 0, [7, 8], "stall")]))
            self.good(waits, (call, FAULT, [("put", 0, [7], 1), ("put", 1, [8], "fault")]))
            self.bad(waits, (call, ("refused", "Fault", 7, 1), [("put", 0, [7], 1), ("put", 1, [8], "fault")]))
        for call, told in ((("seek", 4, "head"), 4), (("flush",), None), (("close",), None)):
            self.good(waits, (call, ("told", told), [put]))
            self.bad(waits, (call, ("told", told), []))
            self.bad(waits, (call, ("told", told), [("put", 0, [7, 8], 1)]))
            self.good(waits, (call, STALLED, [("put", 0, [7, 8], 1), ("put", 1, [8], "stall")]))
            self.bad(waits, (call, ("told", told), [("put", 0, [7, 8], 1), ("put", 1, [8], "stall")]))
            self.bad(waits, (call, STALLED, [("put", 0, [7, 8], 1), ("put", 1, [8], "fault")]))
        self.bad(waits, (("read", 1), ("told", [1]), [put, ("go", 2, 0, 0), ("take", 0, 1, [1])]))
        self.bad(waits, (("flush",), TOLD, [put, ("put", 2, [9], 1)]))

    def test_seeks(self):
        waits = (("write", [7]), ("told", 1), [])
        self.good(waits, (("seek", 1, "head"), ("told", 1), []), (("seek", 0, "here"), ("told", 1), []))
        self.bad(waits, (("seek", 1, "head"), ("told", 1), [("put", 0, [7], 1)]))
        self.good(waits, (("seek", 0, "tail"), ("told", 5), [("put", 0, [7], 1), ("go", 1, 5, 0)]))
        self.bad(waits, (("seek", 0, "tail"), ("told", 4), [("put", 0, [7], 1)]))
        self.bad((("seek", 3, "head"), ("told", 3), [("take", 0, 1, [1])]))
        self.bad((("seek", 3, "head"), ("told", 3), [("cut", 0, 9, 0)]))
        self.good((("seek", 3, "head"), FAULT, [("go", 0, 3, "fault")]), (("tell",), ("told", 0), []))
        for place, start, answer in ((-1, "head", ("BadPlace", -1)), (-9, "tail", ("BadPlace", -4)), (0, "x", ("BadStart", None)),
                                     (4001, "here", ("TooLong", 4001)), (3999, "tail", ("TooLong", 4004))):
            call = ("seek", place, start)
            self.good((call, ("refused",) + answer + (0,), []))
            self.bad((call, ("refused",) + answer + (1,), []))
            self.bad((call, ("told", 0), []))
            self.bad((call, ("refused",) + answer + (0,), [("go", 0, 0, 0)]))
            self.bad((call, ("refused", answer[0], 5, 0), []))

    def test_cuts(self):
        call = ("cut", 3)
        self.good((call, TOLD, [("cut", 0, 3, 0)]), (("seek", 0, "tail"), ("told", 3), []))
        self.bad((call, TOLD, []))
        self.bad((call, TOLD, [("cut", 0, 4, 0)]))
        self.bad((call, TOLD, [("cut", 0, 2, 0)]))
        self.bad((call, TOLD, [("cut", 0, 3, "fault")]))
        self.bad((call, STALLED, [("cut", 0, 3, "stall")]))
        self.good((call, FAULT, [("cut", 0, 3, "fault")]), (("seek", 0, "tail"), ("told", 5), []))
        self.bad((call, FAULT, [("cut", 0, 3, 0), ("go", 0, 1, "fault")]))
        self.good((("cut", 9), FAULT, [("cut", 0, 9, 0), ("go", 0, 1, "fault")]))
        self.good((("cut", 9), TOLD, [("cut", 0, 9, 0)]))
        self.good((("cut", None), TOLD, [("cut", 0, 0, 0)]), (("read", 1), ("told", []), [("take", 0, 1, [])]))
        self.bad((("cut", 9), TOLD, [("cut", 0, 4001, 0)]))
        waits = (("write", [7]), ("told", 1), [])
        self.good(waits, (call, TOLD, [("put", 0, [7], 1), ("cut", 1, 3, 0)]))
        self.bad(waits, (call, TOLD, [("cut", 0, 3, 0), ("put", 0, [7], 1)]))
        self.bad(waits, (call, TOLD, [("cut", 0, 3, 0)]))
        self.bad((("flush",), TOLD, [("cut", 0, 9, 0)]))
        for size, answer in ((-1, ("BadPlace", -1)), (4001, ("TooLong", 4001))):
            self.good((("cut", size), ("refused",) + answer + (0,), []))
            self.bad((("cut", size), TOLD, []))

    def test_refusals_of_a_plain_file(self):
        self.good((("read", -1), ("refused", "BadCount", None, 0), []))
        self.bad((("read", -1), ("told", []), []))
        self.bad((("read", 1), ("refused", "BadCount", None, 0), []))
        self.bad((("read", -1), ("refused", "BadCount", None, 0), [("take", 0, 1, [1])]))
        self.good((("write", [1, 2, 256]), ("refused", "NotByte", 2, 0), []))
        self.bad((("write", [1, 2, 256]), ("refused", "NotByte", 1, 0), []))
        self.bad((("write", [1, 2, 256]), ("told", 3), [("put", 0, [1, 2, 256], 3)]))
        far = (("seek", 3999, "head"), ("told", 3999), [])
        self.good(far, (("write", [1, 2]), ("refused", "TooLong", 4001, 0), []))
        self.bad(far, (("write", [1, 2]), ("refused", "TooLong", 4000, 0), []))
        self.bad(far, (("write", [1, 2]), ("told", 2), []))
        self.good(far, (("write", [1]), ("told", 1), []), (("write", []), ("told", 0), []))

    def test_tell_and_flush(self):
        self.good((("tell",), ("told", 0), []), (("flush",), TOLD, []))
        self.bad((("tell",), ("told", 1), []))
        self.bad((("tell",), ("told", 0), [("go", 0, 0, 0)]))
        self.bad((("flush",), TOLD, [("go", 0, 0, 0)]))
        self.bad((("flush",), ("told", 0), []))

    def test_grows(self):
        self.good((("grow", [6]), TOLD, []), (("seek", 0, "tail"), ("told", 6), []))
        self.bad((("grow", [6]), TOLD, [("go", 0, 0, 0)]))
        self.bad((("grow", [6]), ("told", 1), []))
        self.good((("grow", [0] * 3996), ("refused", "TooLong", 4001, 0), []), (("seek", 0, "tail"), ("told", 5), []))
        self.bad((("grow", [0] * 3996), TOLD, []))
        self.bad((("grow", [0] * 3995), ("refused", "TooLong", 4000, 0), []))
        waits = (("write", [7]), ("told", 1), [])
        self.good((("seek", 5, "head"), ("told", 5), []), waits, (("grow", [6, 6]), TOLD, []),
                  (("flush",), TOLD, [("go", 0, 5, 0), ("put", 5, [7], 1)]),
                  (("read", 1), ("told", [6]), [("take", 6, 1, [6])]))

    def test_closing(self):
        waits = (("write", [7]), ("told", 1), [])
        closed = ("refused", "Closed", None, 0)
        ends = ((("close",), TOLD, [("put", 0, [7], 1)]), (("close",), STALLED, [("put", 0, [7], "stall")]),
                (("close",), FAULT, [("put", 0, [7], "fault")]))
        for end in ends:
            for call in (("read", 1), ("read", -1), ("tell",), ("flush",), ("write", []), ("seek", 0, "x"), ("cut", 0)):
                self.good(waits, end, (call, closed, []))
                self.bad(waits, end, (call, TOLD, []))
                self.bad(waits, end, (call, closed, [("go", 0, 0, 0)]))
            self.good(waits, end, (("close",), TOLD, []), (("grow", [1]), TOLD, []))
            self.bad(waits, end, (("close",), closed, []))
            self.bad(waits, end, (("close",), TOLD, [("put", 0, [7], 1)]))
        self.bad((("tell",), closed, []))

    def test_the_room_counts(self):
        write = (("write", [7, 8, 9]), ("told", 3), [])
        self.good(write, room=3)
        self.bad(write, room=2)
        self.bad((("write", [7, 8, 9]), ("told", 3), [("put", 0, [7, 8, 9], 3)]), room=3)

    def test_a_missing_go_shows_at_the_next_ask(self):
        seek = (("seek", 3, "head"), ("told", 3), [("go", 0, 3, 0)])
        read = (("read", 1), ("told", [4]), [("take", 3, 1, [4])])
        self.good(seek, read)
        self.assertEqual(judged([1, 2, 10, 4, 5], 2, [(seek[0], seek[1], []), (("tell",), ("told", 3), []), read]), 2)


class OneThingChanged(unittest.TestCase):
    def changed(self, chance, item):
        """The tuple with one thing changed so that no file can make it, or None where this was not found."""
        call, answer, asks = item
        kind = chance.randrange(7)
        if kind == 0 and asks:
            at = chance.randrange(len(asks))
            word, place, handed, came = asks[at]
            return call, answer, asks[:at] + [(word, place + 1, handed, came)] + asks[at + 1:]
        if kind == 1 and len(asks) > 1:
            at = chance.randrange(len(asks) - 1)
            return call, answer, asks[:at] + [asks[at][:3] + (chance.choice(("stall", "fault")),)] + asks[at + 1:]
        if kind == 2 and answer[0] == "told" and isinstance(answer[1], list):
            return call, ("told", answer[1] + [1, 2]), asks
        if kind == 3 and answer[0] == "told" and answer[1]:
            wrong = [byte ^ 1 for byte in answer[1]] if isinstance(answer[1], list) else answer[1] + 1
            return call, ("told", wrong), asks
        if kind == 4 and answer[0] == "refused":
            return call, answer[:3] + (answer[3] + 500,), asks
        if kind == 5:
            return call, ("refused", "NoSeek", None, 0), asks
        for at, (word, place, handed, came) in enumerate(asks):
            if kind == 6 and word == "put":
                return call, answer, asks[:at] + [(word, place, [byte ^ 1 for byte in handed], came)] + asks[at + 1:]
        return None

    def test_the_first_bad_tuple_is_told(self):
        many = 0
        for seed in range(400):
            content, room, history = some_play(seed, OtherFile if seed % 2 else File)
            chance = random.Random(seed)
            at = chance.randrange(len(history))
            other = self.changed(chance, history[at])
            if other is not None and other != history[at]:
                if other[0][0] in ("peek", "read_some", "read", "readline") and other[1][0] == "told" and not history[at][1][1]:
                    continue
                many += 1
                spoilt = history[:at] + [other] + history[at + 1:]
                self.assertEqual(judged(content, room, spoilt), at, (seed, history[at], other))
        self.assertGreater(many, 100)


if __name__ == "__main__":
    unittest.main()
