"""Points 7 to 10: the asks, the questions and the log of a raw, shown at devices."""

import random
import unittest

from helper import FAULT_7, outcome, refused, told
from sipstack.device import Device
from sipstack.raws import Raw
from sipstack.words import LONGEST


def state(device):
    """All that an ask may change, but for the log and the plan."""
    where = device.place() if device.seeks() else None
    return (device.content(), where, device.is_shut())


class Takes(unittest.TestCase):
    def test_without_a_plan_all_is_given_whole(self):
        device = Device([1, 2, 3, 4, 5])
        self.assertEqual(device.place(), 0)
        self.assertEqual(device.take(2), [1, 2])
        self.assertEqual(device.place(), 2)
        self.assertEqual(device.take(100), [3, 4, 5])
        self.assertEqual(device.place(), 5)
        self.assertEqual(device.content(), [1, 2, 3, 4, 5])

    def test_at_most_the_number_of_the_plan(self):
        device = Device([1, 2, 3, 4, 5, 6], plan=[2, 1, 9])
        self.assertEqual([device.take(4), device.take(4), device.take(2)], [[1, 2], [3], [4, 5]])
        self.assertEqual(device.place(), 5)

    def test_at_most_as_many_as_are_there(self):
        device = Device([1, 2], plan=[5])
        self.assertEqual(device.take(4), [1, 2])
        self.assertEqual(device.place(), 2)

    def test_at_most_as_many_as_are_asked_for(self):
        device = Device([1, 2, 3], plan=[3])
        self.assertEqual(device.take(1), [1])
        self.assertEqual(device.place(), 1)

    def test_nought_stalls_and_nothing_moves(self):
        device = Device([1, 2, 3], plan=[1, 0, 2])
        self.assertEqual([device.take(1), device.take(1)], [[1], None])
        self.assertEqual(state(device), ([1, 2, 3], 1, False))
        self.assertEqual(device.take(5), [2, 3])

    def test_below_nought_fails_and_nothing_moves(self):
        device = Device([1, 2, 3], plan=[1, -7, 2])
        device.take(1)
        self.assertEqual(outcome(device.take, 2), FAULT_7)
        self.assertEqual(state(device), ([1, 2, 3], 1, False))
        self.assertEqual(device.take(2), [2, 3])

    def test_the_number_of_the_fault_has_no_sign(self):
        for number in (1, 2, 50, 99):
            for word, handed in (("take", 1), ("put", [1]), ("go", 0), ("cut", 0)):
                device = Device([1], plan=[-number])
                self.assertEqual(outcome(getattr(device, word), handed), refused("Fault", number=number, taken=0))

    def test_at_the_end(self):
        for plan, expected in (
            ([], told([])), ([1], told([])), ([400], told([])), ([0], told(None)), ([-7], FAULT_7),
        ):
            for content in ([], [1, 2]):
                device = Device(content, plan=[400, *plan])
                device.go(len(content))
                self.assertEqual(outcome(device.take, 3), expected)
                self.assertEqual(state(device), (content, len(content), False))

    def test_behind_the_plans_end(self):
        device = Device([1, 2, 3], plan=[1])
        self.assertEqual([device.take(2), device.take(2), device.take(2)], [[1], [2, 3], []])

    def test_behind_the_rows_end(self):
        device = Device([1, 2, 3])
        device.go(7)
        self.assertEqual(device.take(2), [])
        self.assertEqual(device.place(), 7)

    def test_a_device_that_does_not_seek_gives_by_its_plan(self):
        device = Device([1, 2, 3, 4], plan=[3, 0, -7, 1], seeks=False)
        self.assertEqual([device.take(2), device.take(2)], [[1, 2], None])
        self.assertEqual(outcome(device.take, 2), FAULT_7)
        self.assertEqual([device.take(2), device.take(2), device.take(2)], [[3], [4], []])


class Puts(unittest.TestCase):
    def test_without_a_plan_all_is_taken_whole(self):
        device = Device([1, 2, 3, 4])
        self.assertEqual(device.put([8, 9]), 2)
        self.assertEqual(state(device), ([8, 9, 3, 4], 2, False))
        self.assertEqual(device.put([5, 6, 7]), 3)
        self.assertEqual(state(device), ([8, 9, 5, 6, 7], 5, False))

    def test_at_most_the_number_of_the_plan(self):
        device = Device([1, 2, 3], plan=[2, 5, 1])
        self.assertEqual(device.put([7, 8, 9]), 2)
        self.assertEqual(state(device), ([7, 8, 3], 2, False))
        self.assertEqual(device.put([6, 5]), 2)
        self.assertEqual(state(device), ([7, 8, 6, 5], 4, False))
        self.assertEqual(device.put([4, 4]), 1)
        self.assertEqual(state(device), ([7, 8, 6, 5, 4], 5, False))

    def test_nought_stalls_and_nothing_moves(self):
        device = Device([1, 2], plan=[0])
        self.assertIsNone(device.put([9]))
        self.assertEqual(state(device), ([1, 2], 0, False))
        self.assertEqual(device.put([9]), 1)

    def test_below_nought_fails_and_nothing_moves(self):
        device = Device([1, 2], plan=[-7])
        self.assertEqual(outcome(device.put, [9]), FAULT_7)
        self.assertEqual(state(device), ([1, 2], 0, False))
        self.assertEqual(device.put([9]), 1)

    def test_a_stall_and_a_fault_behind_the_end_lengthen_nothing(self):
        device = Device([1], plan=[1, 0, -7])
        device.go(4)
        self.assertIsNone(device.put([9]))
        self.assertEqual(outcome(device.put, [9]), FAULT_7)
        self.assertEqual(state(device), ([1], 4, False))

    def test_behind_the_rows_end_noughts_lie_between(self):
        device = Device([1], plan=[1, 1])
        device.go(3)
        self.assertEqual(device.put([8, 9]), 1)
        self.assertEqual(state(device), ([1, 0, 0, 8], 4, False))

    def test_a_device_that_does_not_seek_has_one_place_for_both(self):
        device = Device([1, 2, 3, 4], seeks=False)
        self.assertEqual(device.take(1), [1])
        self.assertEqual(device.put([8, 9]), 2)
        self.assertEqual(device.content(), [1, 8, 9, 4])
        self.assertEqual(device.take(5), [4])
        self.assertEqual(device.put([5]), 1)
        self.assertEqual(device.content(), [1, 8, 9, 4, 5])


class GoesAndCuts(unittest.TestCase):
    def test_a_go_leads_anywhere(self):
        device = Device([1, 2, 3])
        for place in (2, 0, 3, 50, LONGEST, 1):
            self.assertIsNone(device.go(place))
            self.assertEqual(state(device), ([1, 2, 3], place, False))

    def test_a_cut_ahead_of_the_end(self):
        device = Device([1, 2, 3, 4])
        device.go(3)
        self.assertIsNone(device.cut(1))
        self.assertEqual(state(device), ([1], 3, False))
        self.assertEqual(device.size(), 1)
        device.cut(0)
        self.assertEqual(state(device), ([], 3, False))

    def test_a_cut_at_the_end_and_behind_it(self):
        device = Device([1, 2])
        for size in (2, 3, 50, LONGEST):
            self.assertIsNone(device.cut(size))
            self.assertEqual(state(device), ([1, 2], 0, False))

    def test_both_are_done_at_nought_and_above(self):
        device = Device([1, 2, 3], plan=[0, 0, 1, 1])
        device.go(2)
        device.cut(2)
        self.assertEqual(state(device), ([1, 2], 2, False))
        device.go(1)
        device.cut(0)
        self.assertEqual(state(device), ([], 1, False))
        self.assertEqual(device.left(), 0)

    def test_both_fail_below_nought(self):
        device = Device([1, 2, 3], plan=[1, -7, -7])
        device.go(1)
        self.assertEqual(outcome(device.go, 2), FAULT_7)
        self.assertEqual(outcome(device.cut, 1), FAULT_7)
        self.assertEqual(state(device), ([1, 2, 3], 1, False))


class ThePlan(unittest.TestCase):
    def test_each_ask_uses_one_number(self):
        device = Device([1, 2, 3], plan=[1, 0, 5, 5, -7])
        self.assertEqual(device.left(), 5)
        device.take(1)
        self.assertEqual(device.left(), 4)
        device.put([9])
        self.assertEqual(device.left(), 3)
        device.go(0)
        self.assertEqual(device.left(), 2)
        device.cut(3)
        self.assertEqual(device.left(), 1)
        outcome(device.take, 1)
        self.assertEqual(device.left(), 0)
        device.take(1)
        self.assertEqual(device.left(), 0)

    def test_questions_and_growing_use_none(self):
        device = Device([1], plan=[1, 2])
        device.place(), device.size(), device.seeks(), device.is_shut(), device.log()
        device.content(), device.left(), len(device), str(device), device == device
        device.grow([2])
        self.assertEqual(device.left(), 2)
        device.shut()
        self.assertEqual(device.left(), 2)

    def test_a_tuple_is_a_plan_too(self):
        self.assertEqual(Device([1, 2], plan=(1,)).take(2), [1])


class Shut(unittest.TestCase):
    ASKS = (("take", 1), ("put", [1]), ("go", 0), ("cut", 0), ("go", LONGEST + 1), ("cut", LONGEST + 1),
            ("put", [0] * (LONGEST + 1)))

    def test_each_ask_is_closed_ahead_of_all_else(self):
        for seeks in (True, False):
            device = Device([1, 2], plan=[-7, 0], seeks=seeks)
            device.shut()
            for word, handed in self.ASKS:
                self.assertEqual(outcome(getattr(device, word), handed), refused("Closed"))
            self.assertEqual((device.log(), device.left(), device.content()), ([], 2, [1, 2]))

    def test_the_questions_are_answered(self):
        device = Device([1, 2, 3])
        device.take(2)
        self.assertIs(device.is_shut(), False)
        self.assertIsNone(device.shut())
        self.assertIs(device.is_shut(), True)
        self.assertIs(device.seeks(), True)
        self.assertEqual((device.place(), device.size()), (2, 3))
        self.assertEqual(device.log(), [("take", 0, 2, [1, 2])])

    def test_it_still_grows(self):
        device = Device([1])
        device.shut()
        device.grow([2])
        self.assertEqual(state(device), ([1, 2], 0, True))
        self.assertEqual(device.size(), 2)

    def test_a_second_shut_changes_nothing(self):
        device = Device([1, 2], plan=[1, 1])
        device.take(1)
        device.shut()
        device.shut()
        self.assertEqual(state(device), ([1, 2], 1, True))
        self.assertEqual((device.left(), device.log()), (1, [("take", 0, 1, [1])]))
        self.assertEqual(outcome(device.take, 1), refused("Closed"))


class NoSeeking(unittest.TestCase):
    def test_what_is_refused(self):
        device = Device([1, 2], plan=[1, 1], seeks=False)
        for word, handed in (("go", [0]), ("go", [LONGEST + 1]), ("cut", [0]), ("cut", [LONGEST + 1]),
                             ("place", []), ("size", [])):
            self.assertEqual(outcome(getattr(device, word), *handed), refused("NoSeek"))
        self.assertEqual((device.log(), device.left(), device.content()), ([], 2, [1, 2]))
        self.assertIs(device.seeks(), False)

    def test_behind_a_shut(self):
        device = Device([1, 2], seeks=False)
        device.shut()
        self.assertEqual(outcome(device.place), refused("NoSeek"))
        self.assertEqual(outcome(device.size), refused("NoSeek"))
        self.assertEqual(outcome(device.go, 0), refused("Closed"))
        self.assertEqual(outcome(device.cut, 0), refused("Closed"))
        self.assertEqual((device.seeks(), device.is_shut(), device.log()), (False, True, []))


class TooLong(unittest.TestCase):
    def test_a_put_up_to_longest(self):
        device = Device([5] * (LONGEST - 2))
        device.go(LONGEST - 2)
        self.assertEqual(outcome(device.put, [1, 2, 3]), refused("TooLong", length=LONGEST + 1))
        self.assertEqual(device.put([1, 2]), 2)
        self.assertEqual((device.size(), device.place()), (LONGEST, LONGEST))
        self.assertEqual(outcome(device.put, [1]), refused("TooLong", length=LONGEST + 1))
        device.go(LONGEST - 1)
        self.assertEqual(outcome(device.put, [1, 2, 3]), refused("TooLong", length=LONGEST + 2))
        self.assertEqual(device.put([9]), 1)

    def test_a_put_far_behind_the_end(self):
        device = Device([1])
        device.go(LONGEST - 1)
        self.assertEqual(outcome(device.put, [8, 9]), refused("TooLong", length=LONGEST + 1))
        self.assertEqual(device.content(), [1])
        self.assertEqual(device.put([8]), 1)
        self.assertEqual(device.size(), LONGEST)

    def test_also_where_the_plan_would_let_it_take_fewer(self):
        for number in (1, 0, -7):
            device = Device([5] * (LONGEST - 1), plan=[1, number])
            device.go(LONGEST - 1)
            self.assertEqual(outcome(device.put, [1, 2]), refused("TooLong", length=LONGEST + 1))
            self.assertEqual((device.left(), len(device.log()), device.size()), (1, 1, LONGEST - 1))

    def test_a_go_and_a_cut(self):
        device = Device([1, 2], plan=[-7, 1, 1])
        for word in ("go", "cut"):
            for number in (LONGEST + 1, 10 ** 9):
                self.assertEqual(outcome(getattr(device, word), number), refused("TooLong", length=number))
        self.assertEqual((device.left(), device.log(), state(device)), (3, [], ([1, 2], 0, False)))
        self.assertEqual(outcome(device.go, LONGEST), FAULT_7)
        self.assertEqual(outcome(device.go, LONGEST), told(None))
        self.assertEqual(outcome(device.cut, LONGEST), told(None))

    def test_a_row_that_does_not_seek_has_any_length(self):
        device = Device([5] * (LONGEST - 1), seeks=False)
        device.take(LONGEST)
        self.assertEqual(device.put([1, 2, 3]), 3)
        device.grow([4])
        self.assertEqual(device.content(), [5] * (LONGEST - 1) + [1, 2, 3, 4])


class TheLog(unittest.TestCase):
    def test_row_by_row(self):
        device = Device([1, 2, 3], plan=[2, 0, -7, 1, 0, -7, 0, -7, 5, -7])
        self.assertEqual(device.log(), [])
        device.take(5)
        device.take(6)
        outcome(device.take, 7)
        device.put([8, 9])
        device.put([9])
        outcome(device.put, [4])
        device.go(9)
        outcome(device.go, 1)
        device.cut(2)
        outcome(device.cut, 1)
        device.take(4)
        device.go(LONGEST)
        device.cut(0)
        self.assertEqual(device.log(), [
            ("take", 0, 5, [1, 2]), ("take", 2, 6, "stall"), ("take", 2, 7, "fault"),
            ("put", 2, [8, 9], 1), ("put", 3, [9], "stall"), ("put", 3, [4], "fault"),
            ("go", 3, 9, 0), ("go", 9, 1, "fault"), ("cut", 9, 2, 0), ("cut", 9, 1, "fault"),
            ("take", 9, 4, []), ("go", 9, LONGEST, 0), ("cut", LONGEST, 0, 0),
        ])

    def test_its_kinds(self):
        device = Device([1])
        device.take(1)
        log = device.log()
        self.assertIs(type(log), list)
        self.assertIs(type(log[0]), tuple)
        self.assertIs(type(log[0][3]), list)

    def test_of_a_raw_that_does_not_seek(self):
        device = Device([1, 2, 3], plan=[2, 0, -7, 2, 0, -7], seeks=False)
        device.take(5)
        device.take(5)
        outcome(device.take, 5)
        device.put([7, 8, 9])
        device.put([7])
        outcome(device.put, [7])
        device.take(1)
        device.put([6])
        self.assertEqual(device.log(), [
            ("take", 0, 5, [1, 2]), ("take", 2, 5, "stall"), ("take", 2, 5, "fault"),
            ("put", 2, [7, 8, 9], 2), ("put", 4, [7], "stall"), ("put", 4, [7], "fault"),
            ("take", 4, 1, []), ("put", 4, [6], 1),
        ])
        self.assertEqual(device.content(), [1, 2, 7, 8, 6])


class ListsOfPointTwo(unittest.TestCase):
    def test_what_was_handed_in_stays_and_reaches_nothing_afterwards(self):
        for seeks in (True, False):
            content, plan, data, more = [1, 2, 3], [2, 3, 4], [7, 8], [5, 6]
            device = Device(content, plan=plan, seeks=seeks)
            content[0] = 77
            plan.clear()
            self.assertEqual(device.put(data), 2)
            device.grow(more)
            self.assertEqual((data, more), ([7, 8], [5, 6]))
            data[0] = 77
            more.append(77)
            self.assertEqual(device.left(), 2)
            self.assertEqual(device.content(), [7, 8, 3, 5, 6])
            self.assertEqual(device.log(), [("put", 0, [7, 8], 2)])

    def test_a_stalled_and_a_failed_put_keep_what_was_handed_in(self):
        device = Device([], plan=[0, -7])
        data = [1, 2]
        device.put(data)
        outcome(device.put, data)
        data.append(3)
        self.assertEqual(device.log(), [("put", 0, [1, 2], "stall"), ("put", 0, [1, 2], "fault")])

    def test_what_is_told_is_the_askers_own(self):
        device = Device([1, 2, 3])
        taken = device.take(2)
        device.put([9])
        taken.append(77)
        device.content().append(77)
        log = device.log()
        log[0][3].append(77)
        log[1][2].append(77)
        log.append("more")
        self.assertEqual(device.content(), [1, 2, 9])
        self.assertEqual(device.log(), [("take", 0, 2, [1, 2]), ("put", 2, [9], 1)])

    def test_the_row_that_a_device_was_made_of(self):
        for change in (lambda d: d.grow([4]), lambda d: d.cut(1), lambda d: d.put([9, 9]), lambda d: d.take(2)):
            row = [1, 2, 3]
            change(Device(row))
            self.assertEqual(row, [1, 2, 3])
            device = Device(row)
            row.append(77)
            row[1] = 77
            self.assertEqual(device.content(), [1, 2, 3])

    def test_a_row_handed_to_two_devices(self):
        row = [1, 2, 3]
        one, other = Device(row), Device(row)
        one.put([9])
        one.cut(2)
        one.grow([4])
        self.assertEqual((row, other.content(), one.content()), ([1, 2, 3], [1, 2, 3], [9, 2, 4]))


class Model:
    """Points 7 to 10 once more, a byte at a time, to hold long rows of asks against."""

    def __init__(self, content, plan):
        self.bytes = list(content)
        self.plan = list(plan)
        self.spot = 0
        self.lines = []

    def ask(self, word, handed):
        spot, number = self.spot, (self.plan.pop(0) if self.plan else 10 ** 9)
        if number < 0:
            answer, came = refused("Fault", number=-number, taken=0), "fault"
        elif number == 0 and word in ("take", "put"):
            answer, came = told(None), "stall"
        else:
            came = getattr(self, word)(handed, number)
            answer = told(None if word in ("go", "cut") else came)
        self.lines.append((word, spot, handed, came))
        return answer

    def take(self, many, number):
        came = []
        while self.spot < len(self.bytes) and len(came) < min(many, number):
            came.append(self.bytes[self.spot])
            self.spot += 1
        return came

    def put(self, data, number):
        for byte in data[:number]:
            while len(self.bytes) <= self.spot:
                self.bytes.append(0)
            self.bytes[self.spot] = byte
            self.spot += 1
        return min(len(data), number)

    def go(self, place, number):
        self.spot = place
        return 0

    def cut(self, size, number):
        self.bytes = self.bytes[:size]
        return 0


class LongRowsOfAsks(unittest.TestCase):
    def one_ask(self, chance):
        word = chance.choice(("take", "take", "put", "put", "go", "cut"))
        if word == "put":
            return word, [chance.randrange(256) for _ in range(chance.randint(1, 6))]
        return word, chance.randint(1, 9) if word == "take" else chance.randint(0, 20)

    def test_seeded_rows(self):
        for seed in range(60):
            chance = random.Random(seed)
            content = [chance.randrange(256) for _ in range(chance.randint(0, 15))]
            plan = [chance.randint(-2, 5) for _ in range(chance.randint(0, 50))]
            device, model = Device(content, plan=plan), Model(content, plan)
            for _ in range(60):
                word, handed = self.one_ask(chance)
                self.assertEqual(outcome(getattr(device, word), handed), model.ask(word, handed), seed)
                self.assertEqual((device.content(), device.place()), (model.bytes, model.spot), seed)
                self.assertEqual(device.size(), len(model.bytes))
            self.assertEqual(device.log(), model.lines)


class Family(unittest.TestCase):
    def test_a_device_stands_beneath_raw(self):
        self.assertTrue(issubclass(Device, Raw))
        self.assertIsInstance(Device([]), Raw)


if __name__ == "__main__":
    unittest.main()
