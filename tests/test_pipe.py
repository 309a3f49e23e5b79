"""Point 12: the pipe, its two ends and what lies in it."""

import unittest

from helper import outcome, refused, told
from sipstack.pipe import Pipe
from sipstack.raws import Raw
from sipstack.words import BROKEN, LONGEST, ROOM

BROKE = refused("Fault", number=BROKEN, taken=0)


def pipe_with(row, room=64):
    pipe = Pipe(room=room)
    if row:
        pipe.into().put(row)
    return pipe


class Rooms(unittest.TestCase):
    def test_those_that_are_refused(self):
        for room in (0, 65, -1, 10 ** 9, True, False, None, "8", [8]):
            with self.subTest(room=room):
                self.assertEqual(outcome(lambda: Pipe(room=room)), refused("BadRoom"))

    def test_each_one_that_is_not(self):
        for room in range(1, 65):
            pipe = Pipe(room=room)
            self.assertEqual(pipe.into().put([7] * 100), room)
            self.assertIsNone(pipe.into().put([7]))

    def test_left_out(self):
        pipe = Pipe()
        self.assertEqual(pipe.into().put(list(range(100))), ROOM)
        self.assertEqual(pipe.held(), list(range(8)))


class Puts(unittest.TestCase):
    def test_what_goes_in_lies_behind_what_lies_there(self):
        pipe = Pipe(room=5)
        self.assertEqual(pipe.held(), [])
        self.assertEqual(pipe.into().put([1, 2]), 2)
        self.assertEqual(pipe.into().put([3]), 1)
        self.assertEqual(pipe.held(), [1, 2, 3])

    def test_more_than_have_room(self):
        pipe = pipe_with([1, 2], room=4)
        self.assertEqual(pipe.into().put([3, 4, 5, 6]), 2)
        self.assertEqual(pipe.held(), [1, 2, 3, 4])

    def test_a_full_pipe_stalls(self):
        pipe = pipe_with([1, 2], room=2)
        self.assertIsNone(pipe.into().put([3]))
        self.assertEqual(pipe.held(), [1, 2])
        pipe.out().take(1)
        self.assertEqual(pipe.into().put([3, 4]), 1)
        self.assertEqual(pipe.held(), [2, 3])

    def test_where_out_is_shut_it_fails(self):
        for row in ([], [1, 2]):
            pipe = pipe_with(row, room=2)
            pipe.out().shut()
            self.assertEqual(outcome(pipe.into().put, [3]), BROKE)
            self.assertEqual(pipe.held(), [])
            self.assertEqual(outcome(pipe.into().put, [3]), BROKE)


class Takes(unittest.TestCase):
    def test_all_that_lie_there_or_as_many_as_are_asked_for(self):
        pipe = pipe_with([1, 2, 3, 4])
        self.assertEqual(pipe.out().take(1), [1])
        self.assertEqual(pipe.held(), [2, 3, 4])
        self.assertEqual(pipe.out().take(2), [2, 3])
        self.assertEqual(pipe.out().take(100), [4])
        self.assertEqual(pipe.held(), [])

    def test_where_none_lie_there(self):
        pipe = pipe_with([1])
        pipe.out().take(1)
        self.assertIsNone(pipe.out().take(1))
        pipe.into().put([2])
        self.assertEqual(pipe.out().take(1), [2])
        self.assertIsNone(pipe.out().take(1))
        pipe.into().shut()
        self.assertEqual(pipe.out().take(1), [])
        self.assertEqual(pipe.out().take(1), [])

    def test_what_lies_there_is_told_ahead_of_the_end(self):
        pipe = pipe_with([1, 2, 3])
        pipe.into().shut()
        self.assertEqual(pipe.held(), [1, 2, 3])
        self.assertEqual([pipe.out().take(2), pipe.out().take(2), pipe.out().take(2)], [[1, 2], [3], []])

    def test_more_than_longest_bytes_go_through(self):
        pipe = Pipe(room=50)
        for step in range(LONGEST // 50 + 3):
            self.assertEqual(pipe.into().put([step % 256] * 60), 50)
            self.assertEqual(pipe.out().take(99), [step % 256] * 50)
        self.assertEqual(pipe.into().log()[-1][1], (LONGEST // 50 + 2) * 50)
        self.assertEqual(pipe.out().log()[-1][1], (LONGEST // 50 + 2) * 50)


class Ends(unittest.TestCase):
    def test_at_each_time_the_same_two_raws(self):
        pipe = Pipe()
        into, out = pipe.into(), pipe.out()
        self.assertIs(pipe.into(), into)
        self.assertIs(pipe.out(), out)
        self.assertIsNot(into, out)
        self.assertIsInstance(into, Raw)
        self.assertIsInstance(out, Raw)

    def test_the_wrong_ask(self):
        pipe = pipe_with([1])
        self.assertEqual(outcome(pipe.into().take, 1), refused("NoReads"))
        self.assertEqual(outcome(pipe.out().put, [2]), refused("NoWrites"))
        self.assertEqual((pipe.held(), pipe.out().log()), ([1], []))
        self.assertEqual(len(pipe.into().log()), 1)

    def test_they_do_not_seek(self):
        pipe = Pipe()
        for end in (pipe.into(), pipe.out()):
            self.assertIs(end.seeks(), False)
            for word, handed in (("go", [0]), ("cut", [0]), ("go", [LONGEST + 1]), ("place", []), ("size", [])):
                self.assertEqual(outcome(getattr(end, word), *handed), refused("NoSeek"))
            self.assertEqual(end.log(), [])

    def test_a_shut_end(self):
        pipe = pipe_with([1])
        for end in (pipe.into(), pipe.out()):
            noted = end.log()
            self.assertIs(end.is_shut(), False)
            self.assertIsNone(end.shut())
            self.assertIsNone(end.shut())
            for word, handed in (("take", 1), ("put", [2]), ("go", 0), ("cut", 0)):
                self.assertEqual(outcome(getattr(end, word), handed), refused("Closed"))
            self.assertEqual(outcome(end.place), refused("NoSeek"))
            self.assertEqual(outcome(end.size), refused("NoSeek"))
            self.assertEqual((end.is_shut(), end.seeks(), end.log()), (True, False, noted))

    def test_to_shut_one_does_not_shut_the_other(self):
        pipe = Pipe()
        pipe.into().shut()
        self.assertIs(pipe.out().is_shut(), False)
        pipe = Pipe()
        pipe.out().shut()
        self.assertIs(pipe.into().is_shut(), False)

    def test_two_pipes_have_nothing_in_common(self):
        one, other = pipe_with([1]), pipe_with([])
        self.assertEqual((one.held(), other.held()), ([1], []))
        one.into().shut()
        self.assertIsNone(other.out().take(1))


class Held(unittest.TestCase):
    def test_where_out_is_shut_it_is_gone(self):
        pipe = pipe_with([1, 2, 3])
        pipe.out().shut()
        self.assertEqual(pipe.held(), [])

    def test_where_both_are_shut(self):
        pipe = pipe_with([1, 2, 3])
        pipe.into().shut()
        pipe.out().shut()
        self.assertEqual(pipe.held(), [])


class Logs(unittest.TestCase):
    def test_of_both_ends(self):
        pipe = Pipe(room=3)
        pipe.out().take(4)
        pipe.into().put([1, 2])
        pipe.into().put([3, 4])
        pipe.into().put([4])
        pipe.out().take(2)
        pipe.into().put([4])
        outcome(pipe.into().take, 1)
        pipe.out().take(9)
        pipe.into().shut()
        pipe.out().take(9)
        self.assertEqual(pipe.into().log(), [
            ("put", 0, [1, 2], 2), ("put", 2, [3, 4], 1), ("put", 3, [4], "stall"), ("put", 3, [4], 1),
        ])
        self.assertEqual(pipe.out().log(), [
            ("take", 0, 4, "stall"), ("take", 0, 2, [1, 2]), ("take", 2, 9, [3, 4]), ("take", 4, 9, []),
        ])

    def test_a_broken_put(self):
        pipe = pipe_with([1, 2])
        pipe.out().shut()
        outcome(pipe.into().put, [3, 4])
        self.assertEqual(pipe.into().log(), [("put", 0, [1, 2], 2), ("put", 2, [3, 4], "fault")])


class ListsOfPointTwo(unittest.TestCase):
    def test_handed_in_and_told(self):
        pipe = Pipe(room=3)
        data = [1, 2, 3, 4]
        pipe.into().put(data)
        self.assertEqual(data, [1, 2, 3, 4])
        data[0] = 77
        pipe.held().append(77)
        pipe.into().log()[0][2].clear()
        self.assertEqual(pipe.held(), [1, 2, 3])
        taken = pipe.out().take(2)
        taken.append(77)
        pipe.out().log()[0][3].clear()
        self.assertEqual(pipe.held(), [3])
        self.assertEqual(pipe.into().log(), [("put", 0, [1, 2, 3, 4], 3)])
        self.assertEqual(pipe.out().log(), [("take", 0, 2, [1, 2])])

    def test_an_empty_take_is_the_askers_own(self):
        pipe = Pipe()
        pipe.into().shut()
        pipe.out().take(1).append(77)
        self.assertEqual(outcome(pipe.out().take, 1), told([]))
        self.assertEqual(pipe.held(), [])


if __name__ == "__main__":
    unittest.main()
