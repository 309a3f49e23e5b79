"""Point 13: all calls of a plain file, and what it refuses."""

import unittest

from helper import outcome, refused, told
from sipstack.plain import Plain
from sipstack.words import LONGEST

LINES = [1, 10, 2, 3, 10, 10, 4]


def state(plain):
    return (plain.row(), plain.tell())


class Made(unittest.TestCase):
    def test_the_cursor(self):
        self.assertEqual(state(Plain([1, 2])), ([1, 2], 0))
        for place in (0, 1, 2, 3, LONGEST):
            self.assertEqual(state(Plain([1, 2], place)), ([1, 2], place))


class Reads(unittest.TestCase):
    def test_all(self):
        for handed in ((), (None,)):
            plain = Plain([1, 2, 3], 1)
            self.assertEqual(plain.read(*handed), [2, 3])
            self.assertEqual(plain.tell(), 3)
            self.assertEqual(plain.read(*handed), [])

    def test_at_most_many(self):
        for word in ("read", "read_some"):
            for many, expected in ((0, []), (1, [2]), (2, [2, 3]), (3, [2, 3]), (10 ** 9, [2, 3])):
                plain = Plain([1, 2, 3], 1)
                self.assertEqual(getattr(plain, word)(many), expected)
                self.assertEqual(state(plain), ([1, 2, 3], 1 + len(expected)))

    def test_one_behind_another(self):
        plain = Plain([1, 2, 3, 4, 5])
        self.assertEqual([plain.read(2), plain.read_some(1), plain.read()], [[1, 2], [3], [4, 5]])

    def test_peek_leaves_the_cursor(self):
        plain = Plain([1, 2, 3], 1)
        self.assertEqual(plain.peek(), [2])
        for many, expected in ((0, []), (1, [2]), (2, [2, 3]), (9, [2, 3])):
            self.assertEqual(plain.peek(many), expected)
            self.assertEqual(plain.tell(), 1)

    def test_none_is_all_for_read_some_and_peek_too(self):
        plain = Plain([1, 2, 3], 1)
        self.assertEqual((plain.peek(None), plain.read_some(None), plain.tell()), ([2, 3], [2, 3], 3))

    def test_behind_the_end(self):
        for place in (3, 4, LONGEST):
            plain = Plain([1, 2, 3], place)
            for call in (plain.read, plain.peek, plain.readline, lambda: plain.read_some(4), lambda: plain.read(2)):
                self.assertEqual(call(), [])
            self.assertEqual(state(plain), ([1, 2, 3], place))


class Lines(unittest.TestCase):
    def test_line_by_line(self):
        for handed in ((), (None,), (50,)):
            plain = Plain(LINES)
            self.assertEqual([plain.readline(*handed) for _ in range(5)], [[1, 10], [2, 3, 10], [10], [4], []])
            self.assertEqual(plain.tell(), 7)

    def test_with_a_limit(self):
        for limit, expected in ((0, []), (1, [2]), (2, [2, 3]), (3, [2, 3, 10]), (4, [2, 3, 10])):
            plain = Plain(LINES, 2)
            self.assertEqual(plain.readline(limit), expected)
            self.assertEqual(plain.tell(), 2 + len(expected))

    def test_a_return_ends_no_line(self):
        self.assertEqual(Plain([1, 13, 2, 13, 10, 3]).readline(), [1, 13, 2, 13, 10])


class Writes(unittest.TestCase):
    def test_over_the_row_and_beyond(self):
        plain = Plain([1, 2, 3], 1)
        self.assertEqual(plain.write([8]), 1)
        self.assertEqual(state(plain), ([1, 8, 3], 2))
        self.assertEqual(plain.write([5, 6, 7]), 3)
        self.assertEqual(state(plain), ([1, 8, 5, 6, 7], 5))

    def test_behind_the_end(self):
        plain = Plain([1], 3)
        self.assertEqual(plain.write([9]), 1)
        self.assertEqual(state(plain), ([1, 0, 0, 9], 4))

    def test_no_bytes_behind_the_end(self):
        for place in (0, 1, 3, LONGEST):
            plain = Plain([1], place)
            self.assertEqual(plain.write([]), 0)
            self.assertEqual(state(plain), ([1], place))

    def test_up_to_longest(self):
        plain = Plain([1], LONGEST - 2)
        self.assertEqual(outcome(plain.write, [7, 8, 9]), refused("TooLong", length=LONGEST + 1))
        self.assertEqual(outcome(plain.write, [7] * 9), refused("TooLong", length=LONGEST + 7))
        self.assertEqual(state(plain), ([1], LONGEST - 2))
        self.assertEqual(plain.write([7, 8]), 2)
        self.assertEqual((plain.size(), plain.tell()), (LONGEST, LONGEST))
        self.assertEqual(outcome(plain.write, [9]), refused("TooLong", length=LONGEST + 1))
        self.assertEqual(plain.write([]), 0)
        plain.seek(-1, start="tail")
        self.assertEqual(plain.write([9]), 1)

    def test_the_first_and_the_last_byte(self):
        plain = Plain([])
        self.assertEqual(plain.write([0, 255]), 2)
        self.assertEqual(plain.row(), [0, 255])

    def test_a_thing_that_is_no_byte(self):
        for thing in (256, -1, True, False, None, "a", "", [1], 1.0, b"a", 10 ** 9):
            for at in range(3):
                data = [5, 6]
                data.insert(at, thing)
                plain = Plain([1, 2], 1)
                with self.subTest(thing=thing, at=at):
                    self.assertEqual(outcome(plain.write, data), refused("NotByte", at=at))
                    self.assertEqual(state(plain), ([1, 2], 1))

    def test_the_first_of_several(self):
        self.assertEqual(outcome(Plain([]).write, [0, True, 300, -1]), refused("NotByte", at=1))

    def test_no_byte_ahead_of_too_long(self):
        plain = Plain([1], LONGEST)
        self.assertEqual(outcome(plain.write, [1, 2, 256]), refused("NotByte", at=2))


class Seeks(unittest.TestCase):
    def test_each_start(self):
        for place, start, goal in (
            (2, "head", 2), (0, "head", 0), (9, "head", 9), (LONGEST, "head", LONGEST),
            (2, "here", 5), (0, "here", 3), (-3, "here", 0), (LONGEST - 3, "here", LONGEST),
            (0, "tail", 6), (-6, "tail", 0), (-1, "tail", 5), (4, "tail", 10), (LONGEST - 6, "tail", LONGEST),
        ):
            plain = Plain([1, 2, 3, 4, 5, 6], 3)
            with self.subTest(place=place, start=start):
                self.assertEqual(plain.seek(place, start=start), goal)
                self.assertEqual(state(plain), ([1, 2, 3, 4, 5, 6], goal))

    def test_the_start_left_out(self):
        plain = Plain([1, 2, 3], 1)
        self.assertEqual(plain.seek(2), 2)
        self.assertEqual(plain.tell(), 2)

    def test_refused_goals(self):
        for place, start, expected in (
            (-1, "head", refused("BadPlace", goal=-1)), (-4, "here", refused("BadPlace", goal=-1)),
            (-9, "tail", refused("BadPlace", goal=-3)),
            (LONGEST + 1, "head", refused("TooLong", length=LONGEST + 1)),
            (LONGEST, "here", refused("TooLong", length=LONGEST + 3)),
            (LONGEST, "tail", refused("TooLong", length=LONGEST + 6)),
        ):
            plain = Plain([1, 2, 3, 4, 5, 6], 3)
            with self.subTest(place=place, start=start):
                self.assertEqual(outcome(plain.seek, place, start=start), expected)
                self.assertEqual(state(plain), ([1, 2, 3, 4, 5, 6], 3))

    def test_another_start(self):
        for start in ("", "Head", "end", "tail ", None, 0, []):
            for place in (0, -1, LONGEST + 1):
                plain = Plain([1], 1)
                self.assertEqual(outcome(plain.seek, place, start=start), refused("BadStart"))
                self.assertEqual(state(plain), ([1], 1))


class TellsAndCuts(unittest.TestCase):
    def test_questions(self):
        plain = Plain([1, 2, 3], 7)
        self.assertEqual((plain.tell(), plain.size(), plain.row()), (7, 3, [1, 2, 3]))

    def test_a_cut_at_the_cursor(self):
        for handed in ((), (None,)):
            plain = Plain([1, 2, 3], 1)
            self.assertIsNone(plain.cut(*handed))
            self.assertEqual(state(plain), ([1], 1))

    def test_a_cut_at_the_cursor_behind_the_end(self):
        plain = Plain([1, 2, 3], 5)
        plain.cut()
        self.assertEqual(state(plain), ([1, 2, 3], 5))

    def test_a_cut_at_a_size(self):
        for size, row in ((0, []), (1, [1]), (3, [1, 2, 3]), (4, [1, 2, 3]), (LONGEST, [1, 2, 3])):
            plain = Plain([1, 2, 3], 2)
            self.assertIsNone(plain.cut(size))
            self.assertEqual(state(plain), (row, 2))

    def test_refused_sizes(self):
        plain = Plain([1, 2], 1)
        self.assertEqual(outcome(plain.cut, -1), refused("BadPlace", goal=-1))
        self.assertEqual(outcome(plain.cut, -50), refused("BadPlace", goal=-50))
        self.assertEqual(outcome(plain.cut, LONGEST + 1), refused("TooLong", length=LONGEST + 1))
        self.assertEqual(state(plain), ([1, 2], 1))


class Counts(unittest.TestCase):
    def test_below_nought(self):
        for word in ("read", "read_some", "peek", "readline"):
            for count in (-1, -10 ** 9):
                plain = Plain(LINES, 2)
                self.assertEqual(outcome(getattr(plain, word), count), refused("BadCount"))
                self.assertEqual(state(plain), (LINES, 2))


class ListsOfPointTwo(unittest.TestCase):
    def test_handed_in(self):
        row, data = [1, 2, 3], [8, 9]
        plain = Plain(row)
        row.clear()
        plain.write(data)
        self.assertEqual((row, data), ([], [8, 9]))
        data[0] = 77
        self.assertEqual(plain.row(), [8, 9, 3])

    def test_a_handed_row_is_not_changed(self):
        row = [1, 2, 3]
        plain = Plain(row)
        plain.write([9])
        plain.cut(2)
        plain.seek(5)
        plain.write([])
        self.assertEqual(row, [1, 2, 3])

    def test_told(self):
        plain = Plain(LINES)
        for call in (plain.read, plain.peek, plain.readline, plain.row, lambda: plain.read_some(50)):
            plain.seek(0)
            answer = call()
            answer[0] = 77
            answer.append(77)
            self.assertEqual(plain.row(), LINES)
            plain.seek(0)
            self.assertEqual(plain.read(), LINES)
        plain.seek(0, start="tail")
        plain.read().append(77)
        self.assertEqual(outcome(plain.read), told([]))


if __name__ == "__main__":
    unittest.main()
