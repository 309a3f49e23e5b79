"""Point 34: the stretch, a raw upon a file; and files upon stretches, held against plain rows (4)."""

import random
import unittest

from helper import Watch, asks_of, outcome, refused, told, words_of
from sipstack.device import Device
from sipstack.files import File
from sipstack.raws import Raw
from sipstack.rows import laid
from sipstack.stretch import Stretch


def row_of(file, raw_row):
    """A file's row: its raw's row with what waits laid over it."""
    waits = file.waiting()
    return laid(raw_row, file.tell() - len(waits), waits)


def stretch_of(content, first, size, *, plan=(), room=8):
    device = Device(content, plan=plan)
    file = File(device, room=room)
    return device, file, Stretch(file, first, size)


class Making(unittest.TestCase):
    def test_refusals_in_their_order(self):
        closed = File(Device([]), writes=False)
        closed.close()
        self.assertEqual(outcome(Stretch, closed, -1, 0), refused("Closed"))
        self.assertEqual(outcome(Stretch, File(Device([]), reads=False), -1, 0), refused("NoReads"))
        self.assertEqual(outcome(Stretch, File(Device([]), writes=False), -1, 0), refused("NoWrites"))
        file = File(Device([1, 2], plan=[-1]))
        self.assertEqual(outcome(Stretch, file, -1, 0), refused("BadPlace", goal=-1))
        self.assertEqual(outcome(Stretch, file, 5000, 0), refused("BadPlace", goal=0))
        self.assertEqual(outcome(Stretch, file, 0, -3), refused("BadPlace", goal=-3))
        self.assertEqual(outcome(Stretch, file, 3999, 2), refused("TooLong", length=4001))
        self.assertEqual(outcome(Stretch, file, 0, 4001), refused("TooLong", length=4001))
        for first, size in ((0, 4000), (3999, 1), (0, 1)):
            stretch = Stretch(file, first, size)
            self.assertIsInstance(stretch, Raw)
            self.assertEqual((stretch.place(), stretch.seeks(), stretch.is_shut(), stretch.log()), (0, True, False, []))
        self.assertEqual(file.raw.log(), [])

    def test_its_size_is_what_is_there_of_it(self):
        for first, size, due in ((0, 10, 5), (2, 2, 2), (2, 10, 3), (5, 3, 0), (9, 3, 0), (4, 1, 1)):
            device, file, stretch = stretch_of([1, 2, 3, 4, 5], first, size)
            self.assertEqual(stretch.size(), due)
        file.seek(7)
        file.write([1, 2, 3])
        self.assertEqual(Stretch(file, 6, 9).size(), 4)


class Asks(unittest.TestCase):
    def test_takes_within_and_at_its_ends(self):
        device, file, stretch = stretch_of(list(range(10)), 2, 5, room=2)
        taken = []
        while len(taken) < 5:
            came = stretch.take(4)
            self.assertTrue(1 <= len(came) <= 4)
            taken += came
        self.assertEqual((taken, stretch.place()), ([2, 3, 4, 5, 6], 5))
        self.assertEqual(asks_of(device, stretch.take, 4), (told([]), []))
        stretch.go(9)
        self.assertEqual(asks_of(device, stretch.take, 4), (told([]), []))
        self.assertEqual(stretch.place(), 9)
        stretch.go(3)
        self.assertEqual(stretch.take(10 ** 9), [5, 6])
        self.assertEqual([row[:3] for row in stretch.log()[-4:]], [("go", 5, 9), ("take", 9, 4), ("go", 9, 3),
                                                                   ("take", 3, 10 ** 9)])

    def test_takes_behind_the_files_end(self):
        device, file, stretch = stretch_of([1, 2, 3], 2, 5)
        self.assertEqual((stretch.take(9), stretch.take(9)), ([3], []))
        device.grow([4])
        self.assertEqual((stretch.size(), stretch.take(9)), (2, [4]))
        device, file, stretch = stretch_of([1, 2, 3], 6, 5)
        self.assertEqual(stretch.take(9), [])

    def test_puts(self):
        device, file, stretch = stretch_of(list(range(10)), 2, 5, room=3)
        stretch.go(1)
        data, handed = [91, 92, 93, 94, 95, 96], 0
        while stretch.place() < 5:
            took = stretch.put(data[handed:])
            self.assertGreaterEqual(took, 1)
            handed += took
        self.assertEqual(handed, 4)
        self.assertEqual(asks_of(device, stretch.put, [1]), (refused("Fault", number=98, taken=0), []))
        self.assertEqual(stretch.log()[-1], ("put", 5, [1], "fault"))
        stretch.go(4000)
        self.assertEqual(asks_of(device, stretch.put, [1] * 400), (refused("Fault", number=98, taken=0), []))
        self.assertEqual(row_of(file, device.content()), [0, 1, 2, 91, 92, 93, 94, 7, 8, 9])
        self.assertEqual(stretch.place(), 4000)

    def test_a_put_behind_the_end_fills_the_gap_with_noughts(self):
        device, file, stretch = stretch_of([1], 3, 9)
        other = Stretch(file, 0, 3)
        stretch.go(2)
        self.assertEqual(stretch.put([7]), 1)
        self.assertEqual((stretch.size(), other.size()), (3, 3))
        self.assertEqual(other.take(9), [1, 0, 0])
        file.flush()
        self.assertEqual(device.content(), [1, 0, 0, 0, 0, 7])

    def test_go_and_cut(self):
        device, file, stretch = stretch_of([1, 2, 3], 1, 2, plan=[-7])
        for place in (0, 2, 3, 4000):
            self.assertEqual(asks_of(device, stretch.go, place), (told(None), []))
            self.assertEqual(stretch.place(), place)
        self.assertEqual(outcome(stretch.go, 4001), refused("TooLong", length=4001))
        self.assertEqual(outcome(stretch.cut, 0), refused("NoCut"))
        self.assertEqual(outcome(stretch.cut, 4001), refused("NoCut"))
        self.assertEqual(words_of(stretch.log()), ["go"] * 4)

    def test_shut(self):
        device, file, stretch = stretch_of([1, 2, 3], 1, 2)
        stretch.take(1)
        stretch.shut()
        stretch.shut()
        for word, handed in (("take", 1), ("put", [1]), ("go", 4001), ("cut", 0)):
            self.assertEqual(outcome(getattr(stretch, word), handed), refused("Closed"))
        self.assertEqual((stretch.is_shut(), stretch.size(), len(stretch.log())), (True, 2, 1))
        self.assertEqual((file.closed(), device.is_shut(), stretch.place()), (False, False, stretch.place()))
        self.assertEqual(Stretch(file, 0, 3).take(1), [1])

    def test_a_stretch_of_a_closed_file(self):
        for ending in ("close", "detach"):
            device, file, stretch = stretch_of([1, 2, 3], 1, 2)
            getattr(file, ending)()
            for word, handed in (("take", 1), ("put", [1]), ("go", 0), ("cut", 0)):
                self.assertEqual(outcome(getattr(stretch, word), handed), refused("Closed"))
            self.assertEqual(stretch.log(), [])

    def test_handed_and_told_lists(self):
        device, file, stretch = stretch_of([1, 2, 3], 0, 3)
        data = [7]
        stretch.put(data)
        data[0] = 8
        stretch.log()[0][2].append(1)
        stretch.take(1).append(5)
        stretch.log()[1][3].append(1)
        self.assertEqual(stretch.log()[0], ("put", 0, [7], 1))
        self.assertEqual(row_of(file, device.content()), [7, 2, 3])

    def test_a_stall_and_a_fault_leave_the_handed_bytes_out(self):
        chance = random.Random(34)
        for _ in range(300):
            plan = [chance.choice((0, -5, -6, 1, 2, 400)) for _ in range(40)]
            device, file, stretch = stretch_of(list(range(30)), 4, 12, plan=plan, room=chance.choice((1, 2, 5)))
            plain, place = list(range(4, 16)), 0
            for _ in range(25):
                self.one_ask(chance, device, file, stretch, plain, place, plan)
                place = stretch.place()
                whole = row_of(file, device.content())
                self.assertEqual(whole[4:16], plain)
                self.assertEqual(whole[:4] + whole[16:], list(range(4)) + list(range(16, 30)))

    def one_ask(self, chance, device, file, stretch, plain, place, plan):
        many = chance.randint(1, 9)
        kind = chance.choice(("take", "put", "put", "go", "flush"))
        if kind == "flush":
            return outcome(file.flush)
        handed = {"take": many, "go": chance.randint(0, 14), "put": [chance.randrange(100, 200) for _ in range(many)]}[kind]
        asked = len(stretch.log())
        answer, asks = asks_of(device, getattr(stretch, kind), handed)
        word, noted_place, noted, came = stretch.log()[asked]
        self.assertEqual((word, noted_place, noted), (kind, place, handed))
        last = asks[-1][3] if asks else None
        if last == "stall":
            self.assertEqual((answer, came, stretch.place()), (told(None), "stall", place))
        elif last == "fault":
            number = -plan[len(device.log()) - 1]
            self.assertEqual((answer, came), (refused("Fault", number=number, taken=0), "fault"))
        elif kind == "take":
            self.assertEqual(answer, told(plain[place:place + len(answer[1])]))
            self.assertEqual((came, stretch.place()), (answer[1], place + len(answer[1])))
            self.assertTrue(answer[1] or place >= 12)
        elif kind == "put" and place >= 12:
            self.assertEqual((answer, asks), (refused("Fault", number=98, taken=0), []))
        elif kind == "put":
            took = answer[1]
            self.assertTrue(1 <= took <= min(len(handed), 12 - place))
            plain[place:place + took] = handed[:took]
            self.assertEqual((came, stretch.place()), (took, place + took))
        else:
            self.assertEqual((answer, asks, stretch.place()), (told(None), [], handed))


class Seen(Stretch):
    """A stretch that also tells its row, as a device does."""

    def __init__(self, device, file, first, size):
        Stretch.__init__(self, file, first, size)
        self.ground = device
        self.base = file
        self.begin = first
        self.many = size

    def content(self):
        return row_of(self.base, self.ground.content())[self.begin:self.begin + self.many]

    def __len__(self):
        return self.size()


class StretchWatch(Watch):
    """Watches a file upon a stretch; below lies the device at the ground, whose plan tells the faults' numbers."""

    def __init__(self, test, stretch, ground, plan, room):
        Watch.__init__(self, test, stretch.content(), plan=plan, room=room, raw=stretch)
        self.ground = ground

    def fault_number(self, call):
        word, place, _, _ = call.asks[-1]
        if word == "put" and place >= self.device.many:
            return 98
        return -self.plan[len(self.ground.log()) - 1]


def some_call(chance, watch, size):
    room = watch.room
    roll = chance.random()
    count = chance.choice((0, 1, 2, room, room + 1, 3 * room, -1))
    if roll < 0.2:
        watch.call("read", chance.choice((None, count)))
    elif roll < 0.4:
        watch.call(chance.choice(("read_some", "peek")), count)
    elif roll < 0.55:
        watch.call("readline", chance.choice((None, count)))
    elif roll < 0.8:
        watch.call("write", [chance.choice((10, chance.randrange(256))) for _ in range(chance.randint(0, 2 * room))])
    elif roll < 0.95:
        watch.call("seek", chance.randint(-2, size + 1))
    else:
        watch.call("flush")


def some_plan(chance):
    return [chance.choice((0, -5, 1, 2, 3, 400, 400)) for _ in range(chance.choice((0, 40, 150)))]


class FilesUponStretches(unittest.TestCase):
    def test_a_file_upon_a_stretch(self):
        for seed in range(150):
            chance = random.Random(seed)
            plan = some_plan(chance)
            device = Device([chance.choice((10, chance.randrange(256))) for _ in range(chance.randint(20, 60))], plan=plan)
            file = File(device, room=chance.choice((1, 2, 8)))
            size = chance.randint(1, 20)
            stretch = Seen(device, file, chance.randint(0, 20), size)
            watch = StretchWatch(self, stretch, device, plan, chance.choice((1, 2, 8)))
            for _ in range(60):
                some_call(chance, watch, size)

    def test_two_files_upon_stretches_of_one_file_by_turns(self):
        for seed in range(60):
            chance = random.Random(seed)
            plan = some_plan(chance)
            device = Device([chance.choice((10, chance.randrange(256))) for _ in range(40)], plan=plan)
            file = File(device, room=chance.choice((1, 2, 8)))
            rooms = (chance.choice((1, 3)), 5)
            watches = [StretchWatch(self, Seen(device, file, first, 12), device, plan, room)
                       for first, room in zip((0, 15), rooms)]
            for _ in range(80):
                watch = chance.choice(watches)
                some_call(chance, watch, 9)
                for other in watches:
                    other.check_state()
                if chance.random() < 0.1:
                    outcome(file.flush)

    def test_a_file_upon_a_stretch_of_a_file_upon_a_stretch(self):
        for seed in range(60):
            chance = random.Random(1000 + seed)
            plan = some_plan(chance)
            device = Device([chance.choice((10, chance.randrange(256))) for _ in range(50)], plan=plan)
            lower = Seen(device, File(device, room=chance.choice((1, 4))), 5, 40)
            middle = File(lower, room=chance.choice((1, 2, 8)))
            size = chance.randint(1, 30)
            watch = StretchWatch(self, Seen(lower, middle, 4, size), device, plan, chance.choice((1, 3, 8)))
            for _ in range(60):
                some_call(chance, watch, size)

    def test_what_is_flushed_comes_down_floor_by_floor(self):
        device = Device([0] * 12)
        lower = File(device, room=8)
        upper = File(Stretch(lower, 3, 6), room=8)
        upper.seek(1)
        upper.write([7, 8])
        self.assertEqual((upper.waiting(), lower.waiting(), str(device)), ([7, 8], [], "00" * 12))
        upper.flush()
        self.assertEqual((upper.waiting(), row_of(lower, device.content())), ([], [0] * 4 + [7, 8] + [0] * 6))
        lower.flush()
        self.assertEqual(device.content(), [0] * 4 + [7, 8] + [0] * 6)

    def test_a_cut_is_refused_behind_the_putting(self):
        device, file, stretch = stretch_of([1, 2, 3, 4], 0, 4)
        upper = File(stretch)
        upper.write([9])
        self.assertEqual(outcome(upper.cut, -1), refused("BadPlace", goal=-1))
        self.assertEqual(upper.waiting(), [9])
        self.assertEqual(outcome(upper.cut, 1), refused("NoCut"))
        self.assertEqual((upper.waiting(), upper.size(), words_of(stretch.log())), ([], 4, ["put"]))

    def test_a_file_that_runs_into_the_stretchs_end(self):
        device, file, stretch = stretch_of([1, 2, 3, 4, 5], 1, 3)
        upper = File(stretch, room=2)
        upper.seek(1)
        answer = outcome(upper.write, [6, 7, 8, 9, 10])
        self.assertEqual(answer[:2], ("refused", "Fault"))
        self.assertEqual(answer[2]["number"], 98)
        taken = answer[2]["taken"]
        self.assertEqual([6, 7] + upper.waiting(), [6, 7, 8, 9, 10][:taken])
        self.assertEqual(outcome(upper.close), refused("Fault", number=98, taken=0))
        self.assertEqual(row_of(file, device.content()), [1, 2, 6, 7, 5])
        self.assertEqual((stretch.is_shut(), file.closed()), (True, False))

    def test_noughts_of_a_gap_are_grown_bytes_for_another_stretch(self):
        device, file, right = stretch_of([1], 4, 5)
        left = File(Stretch(file, 0, 4))
        self.assertEqual((left.read(), left.read()), ([1], []))
        upper = File(right)
        upper.seek(1)
        upper.write([7])
        upper.flush()
        self.assertEqual((left.size(), left.read(), left.read()), (4, [0, 0, 0], []))
        self.assertEqual(row_of(file, device.content()), [1, 0, 0, 0, 0, 7])

    def test_a_stalled_file_beneath(self):
        device, file, stretch = stretch_of([1, 2, 3, 4], 0, 4, plan=[400, 0, 0])
        file.seek(3)
        file.write([9])
        self.assertEqual(outcome(stretch.take, 1), told(None))
        upper = File(stretch)
        self.assertEqual(upper.read(1), None)
        self.assertEqual(upper.read(), [1, 2, 3, 9])
        upper.seek(0)
        upper.write([8])
        upper.flush()
        self.assertEqual(file.waiting(), [8])
        file.flush()
        self.assertEqual(device.content(), [8, 2, 3, 9])


if __name__ == "__main__":
    unittest.main()
