"""Point 11: growing, and what is asked of a device."""

import unittest

from helper import outcome, refused, told
from sipstack.device import Device
from sipstack.words import LONGEST


class Growing(unittest.TestCase):
    def test_bytes_are_laid_behind_the_rows_end(self):
        device = Device([1, 2], plan=[1])
        device.take(1)
        self.assertIsNone(device.grow([3, 4]))
        self.assertEqual((device.content(), device.place(), device.size()), ([1, 2, 3, 4], 1, 4))
        self.assertEqual(device.log(), [("take", 0, 1, [1])])
        self.assertEqual(device.take(9), [2, 3, 4])

    def test_with_a_place_behind_the_end(self):
        device = Device([1])
        device.go(5)
        device.grow([2, 3])
        self.assertEqual((device.content(), device.place()), ([1, 2, 3], 5))

    def test_without_bytes(self):
        device = Device([1])
        device.grow([])
        self.assertEqual(device.content(), [1])

    def test_behind_a_shut(self):
        for seeks in (True, False):
            device = Device([1], seeks=seeks)
            device.shut()
            device.grow([2])
            self.assertEqual((device.content(), device.is_shut()), ([1, 2], True))

    def test_of_a_device_that_does_not_seek(self):
        device = Device([1], seeks=False)
        self.assertEqual(device.take(5), [1])
        device.grow([2])
        self.assertEqual(device.take(5), [2])

    def test_to_longest_and_beyond(self):
        device = Device([5] * (LONGEST - 2))
        self.assertEqual(outcome(device.grow, [1, 2, 3]), refused("TooLong", length=LONGEST + 1))
        self.assertEqual(len(device), LONGEST - 2)
        self.assertEqual(outcome(device.grow, [1, 2]), told(None))
        self.assertEqual(len(device), LONGEST)
        self.assertEqual(outcome(device.grow, [1, 2]), refused("TooLong", length=LONGEST + 2))
        device.shut()
        self.assertEqual(outcome(device.grow, [1]), refused("TooLong", length=LONGEST + 1))
        self.assertEqual(device.content(), [5] * (LONGEST - 2) + [1, 2])

    def test_made_of_longest_bytes(self):
        device = Device([1] * LONGEST)
        self.assertEqual((len(device), device.size()), (LONGEST, LONGEST))
        self.assertEqual(device.put([2]), 1)


class Asked(unittest.TestCase):
    def test_content(self):
        device = Device([1, 2])
        self.assertEqual(device.content(), [1, 2])
        device.cut(1)
        self.assertEqual(device.content(), [1])
        self.assertIs(type(device.content()), list)

    def test_left(self):
        self.assertEqual(Device([]).left(), 0)
        self.assertEqual(Device([], plan=[1, 0, -1]).left(), 3)

    def test_len(self):
        for many in (0, 1, 300):
            self.assertEqual(len(Device([7] * many)), many)
        device = Device([1, 2], seeks=False)
        device.take(1)
        device.grow([3])
        self.assertEqual(len(device), 3)

    def test_str(self):
        self.assertEqual(str(Device([])), "")
        self.assertEqual(str(Device([10, 13, 255])), "0a0dff")
        device = Device([10], seeks=False)
        device.put([1, 2])
        self.assertEqual(str(device), "0102")

    def test_seeks(self):
        self.assertIs(Device([]).seeks(), True)
        self.assertIs(Device([], seeks=True).seeks(), True)
        self.assertIs(Device([], seeks=False).seeks(), False)


class Equal(unittest.TestCase):
    def test_the_same_row_is_enough(self):
        one = Device([1, 2, 3])
        other = Device([1, 2, 3], plan=[1, 0, -3], seeks=False)
        other.take(1)
        other.shut()
        self.assertTrue(one == other)
        self.assertTrue(other == one)
        self.assertFalse(one != other)
        self.assertTrue(one == one)
        self.assertTrue(Device([]) == Device([]))

    def test_the_row_as_it_is(self):
        one, other = Device([1, 2]), Device([1])
        self.assertFalse(one == other)
        self.assertTrue(one != other)
        other.grow([2])
        self.assertTrue(one == other)
        one.cut(1)
        self.assertFalse(one == other)
        one.go(1)
        one.put([2])
        self.assertTrue(one == other)

    def test_another_row(self):
        for row in ([], [1], [1, 2, 4], [1, 2, 3, 0], [3, 2, 1]):
            self.assertFalse(Device([1, 2, 3]) == Device(row))

    def test_a_thing_of_another_kind(self):
        class EqualToAll:
            def __eq__(self, other):
                return True

        for content, things in (
            ([1, 2, 3], ([1, 2, 3], (1, 2, 3), "010203", b"\x01\x02\x03", None, 3, True, {}, EqualToAll())),
            ([], ([], "", None, 0, False, ())),
        ):
            for thing in things:
                with self.subTest(thing=thing):
                    self.assertIs(Device(content) == thing, False)


if __name__ == "__main__":
    unittest.main()
