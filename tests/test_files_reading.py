"""Points 16, 18 and 20: reading, also through stalls and faults, and few asks."""

import unittest

from helper import FAULT_7, STALLED, Watch, asks_of, outcome, refused, told, words_of
from sipstack.device import Device
from sipstack.files import File

TEN = [1, 2, 3, 4, 5, 6, 7, 8, 9, 10]
LINES = [1, 2, 10, 3, 10, 10, 4, 5]


class Dues(unittest.TestCase):
    def file_at(self, row, place, room):
        device = Device(row)
        device.go(place)
        return File(device, room=room)

    def test_read(self):
        for room in (1, 8, 64):
            for many, expected in ((0, []), (1, [3]), (5, TEN[2:7]), (8, TEN[2:]), (9, TEN[2:]), (None, TEN[2:])):
                file = self.file_at(TEN, 2, room)
                self.assertEqual((file.read(many), file.tell()), (expected, 2 + len(expected)))
            self.assertEqual(self.file_at(TEN, 2, room).read(), TEN[2:])

    def test_read_some_and_peek(self):
        for room in (1, 8, 64):
            for word in ("read_some", "peek"):
                for many in (1, 3, 8, 50):
                    file = self.file_at(TEN, 2, room)
                    answer = getattr(file, word)(many)
                    self.assertEqual(answer, TEN[2:2 + many][:len(answer)])
                    self.assertGreaterEqual(len(answer), 1)
                    cursor = 2 if word == "peek" else 2 + len(answer)
                    self.assertEqual((file.tell(), file.read()), (cursor, TEN[cursor:]))

    def test_peek_left_out_is_one_byte(self):
        file = self.file_at(TEN, 4, 8)
        self.assertEqual((file.peek(), file.peek(), file.tell()), ([5], [5], 4))

    def test_read_some_and_peek_without_a_count(self):
        for word in ("read_some", "peek"):
            answer = getattr(self.file_at(TEN, 2, 4), word)(None)
            self.assertEqual(answer, TEN[2:2 + len(answer)])
            self.assertGreaterEqual(len(answer), 1)

    def test_readline(self):
        for room in (1, 8, 64):
            file = self.file_at(LINES, 0, room)
            self.assertEqual([file.readline() for _ in range(5)], [[1, 2, 10], [3, 10], [10], [4, 5], []])
            file = self.file_at(LINES, 0, room)
            self.assertEqual([file.readline(2) for _ in range(6)], [[1, 2], [10], [3, 10], [10], [4, 5], []])
            file = self.file_at(LINES, 0, room)
            self.assertEqual((file.readline(None), file.readline(3), file.readline(0)), ([1, 2, 10], [3, 10], []))

    def test_behind_the_end(self):
        for place in (10, 11, 50):
            file = self.file_at(TEN, place, 8)
            for call in (file.read, file.peek, file.readline, lambda: file.read_some(5), lambda: file.read(5)):
                self.assertEqual((call(), file.tell()), ([], place))

    def test_what_was_grown_since_an_end_is_read(self):
        for seeks in (True, False):
            device = Device([1], seeks=seeks)
            file = File(device, reads=True, writes=False)
            self.assertEqual([file.read(), file.read(), file.peek(), file.readline()], [[1], [], [], []])
            device.grow([2])
            self.assertEqual(file.peek(5), [2])
            device.grow([3, 10])
            self.assertEqual(file.readline(), [2, 3, 10])
            self.assertEqual(file.read(), [])


class Stalls(unittest.TestCase):
    def test_nothing_known(self):
        for word, handed in (("read", (3,)), ("read", ()), ("read_some", (3,)), ("peek", (3,)), ("readline", ())):
            for content in ([], TEN):
                device = Device(content, plan=[0])
                file = File(device)
                answer, asks = asks_of(device, getattr(file, word), *handed)
                self.assertEqual(answer, told(None))
                self.assertEqual(words_of(asks), ["take"])
                self.assertEqual(file.tell(), 0)
                self.assertEqual(file.read(), content)

    def test_all_that_is_known_is_told(self):
        for handed in ((7,), (), (None,)):
            file = File(Device(TEN, plan=[2, 3, 0]), room=8)
            self.assertEqual((file.read(*handed), file.tell()), (TEN[:5], 5))
            self.assertEqual(file.read(), TEN[5:])

    def test_a_read_tells_what_its_own_takes_brought(self):
        file = File(Device(TEN, plan=[2, 1, 0]), room=8)
        self.assertEqual((file.read(9), file.tell()), ([1, 2, 3], 3))
        self.assertEqual(file.read(9), TEN[3:])

    def test_a_line_that_is_not_whole(self):
        file = File(Device([1, 2, 3, 10, 4], plan=[2, 0, 1, 0]), room=8)
        self.assertEqual((file.readline(), file.tell()), ([1, 2], 2))
        self.assertEqual((file.readline(), file.tell()), ([3], 3))
        self.assertEqual((file.readline(), file.tell()), ([10], 4))

    def test_a_limit(self):
        file = File(Device([1, 2, 3, 4, 5], plan=[2, 0]), room=8)
        self.assertEqual((file.readline(4), file.tell()), ([1, 2], 2))

    def test_what_earlier_calls_left_known(self):
        device = Device(TEN, plan=[4, 0])
        file = File(device, room=8)
        self.assertEqual(file.read(1), [1])
        self.assertEqual((file.read(9), file.tell()), ([2, 3, 4], 4))

    def test_a_peek_that_stalls_leaves_the_cursor(self):
        device = Device(TEN, plan=[0, 3])
        file = File(device, room=8)
        self.assertIsNone(file.peek(5))
        self.assertEqual((file.peek(5), file.tell()), ([1, 2, 3], 0))

    def test_an_end_and_a_stall_are_not_taken_for_one_another(self):
        device = Device([1], plan=[1, 0, 1, 0, 1])
        file = File(device)
        self.assertEqual([file.read(), file.read(), file.read(), file.read()], [[1], [], None, []])
        device = Device([], plan=[0, 1, 0, 1, 0])
        file = File(device)
        answers = [file.read_some(1), file.peek(), file.readline(), file.read(4), file.peek()]
        self.assertEqual(answers, [None, [], None, [], None])

    def test_no_ask_follows_a_stall(self):
        for word, handed in (("read", ()), ("read", (9,)), ("readline", ())):
            device = Device(TEN, plan=[3, 0, 1, 1, 1])
            file = File(device, room=8)
            answer, asks = asks_of(device, getattr(file, word), *handed)
            self.assertEqual((answer, words_of(asks), asks[-1][3]), (told([1, 2, 3]), ["take", "take"], "stall"))


class Faults(unittest.TestCase):
    CALLS = (("read", (3,)), ("read", ()), ("read_some", (3,)), ("peek", (3,)), ("readline", ()))

    def test_a_take_fails(self):
        for word, handed in self.CALLS:
            device = Device(TEN, plan=[-7])
            file = File(device)
            answer, asks = asks_of(device, getattr(file, word), *handed)
            self.assertEqual((answer, asks[-1][3], file.tell()), (FAULT_7, "fault", 0))
            self.assertEqual(file.read(), TEN)

    def test_what_was_brought_is_not_lost_and_not_asked_for_again(self):
        for word, handed in (("read", (7,)), ("read", ()), ("readline", ())):
            device = Device(TEN, plan=[3, 2, -7])
            file = File(device, room=8)
            answer, asks = asks_of(device, getattr(file, word), *handed)
            self.assertEqual((answer, file.tell()), (FAULT_7, 0))
            self.assertEqual([ask[3] for ask in asks], [[1, 2, 3], [4, 5], "fault"])
            self.assertEqual(asks_of(device, file.read, 5), (told([1, 2, 3, 4, 5]), []))
            answer, asks = asks_of(device, file.read)
            self.assertEqual((answer, asks[0][1]), (told(TEN[5:]), 5))

    def test_again_and_again(self):
        device = Device(TEN, plan=[4, -7, -3, 1, -7, 9])
        file = File(device, room=8)
        self.assertEqual(outcome(file.read), FAULT_7)
        self.assertEqual(outcome(file.read), refused("Fault", number=3, taken=0))
        self.assertEqual(outcome(file.read), FAULT_7)
        self.assertEqual((file.tell(), file.peek(9), file.read()), (0, [1, 2, 3, 4, 5], TEN))

    def test_a_stall_behind_a_fault_tells_what_is_known(self):
        file = File(Device(TEN, plan=[4, -7, 0]), room=8)
        outcome(file.read)
        self.assertEqual((file.read(), file.tell()), ([1, 2, 3, 4], 4))

    def test_a_go_fails(self):
        device = Device(TEN, plan=[8, -7, -7, -7, -7])
        file = File(device, room=8)
        self.assertEqual(file.read(1), [1])
        answer = outcome(file.seek, 5)
        while answer[0] == "refused":
            self.assertEqual((answer, file.tell()), (FAULT_7, 1))
            answer = outcome(file.seek, 5)
        answer = outcome(file.read, 2)
        while answer[0] == "refused":
            self.assertEqual((answer, file.tell()), (FAULT_7, 5))
            answer = outcome(file.read, 2)
        self.assertEqual((answer, file.tell()), (told([6, 7]), 7))

    def test_a_refused_seek_is_no_turn(self):
        device = Device(TEN, plan=[8])
        file = File(device, room=8)
        file.read(1)
        outcome(file.seek, -1)
        self.assertEqual(file.seek(1), 1)
        self.assertEqual(asks_of(device, file.read, 7), (told(TEN[1:8]), []))


class Turns(unittest.TestCase):
    """What was known ahead of a turn is told no more where the row is otherwise by then."""

    def primed(self, row=TEN, room=8):
        device = Device(row)
        file = File(device, room=room)
        self.assertEqual(file.peek(), row[:1])
        return device, file

    def test_a_write(self):
        device, file = self.primed()
        self.assertEqual(file.write([77, 78]), 2)
        self.assertEqual(file.read(3), [3, 4, 5])
        file.seek(0)
        self.assertEqual(file.read(), [77, 78] + TEN[2:])

    def test_a_write_that_is_refused(self):
        for number, name in ((0, "Stalled"), (-7, "Fault")):
            device = Device(TEN, plan=[8, 1, number, 8, 8])
            file = File(device, room=2)
            self.assertEqual(file.peek(), [1])
            answer = outcome(file.write, [77, 78, 79, 80, 81, 82])
            self.assertEqual(answer[:2], ("refused", name))
            taken = answer[2]["taken"]
            self.assertEqual((file.tell(), file.seek(0)), (taken, 0))
            self.assertEqual(file.read(), [77, 78, 79, 80, 81, 82][:taken] + TEN[taken:])

    def test_a_seek(self):
        device, file = self.primed()
        file.seek(4)
        self.assertEqual(file.read(2), [5, 6])
        file.seek(1)
        self.assertEqual(file.read(2), [2, 3])
        file.seek(3, start="here")
        self.assertEqual(file.peek(1), [7])
        file.seek(-1, start="tail")
        self.assertEqual(file.read(), [10])

    def test_a_seek_forth_and_back_over_a_write(self):
        device, file = self.primed()
        file.seek(3)
        file.write([77])
        file.seek(0)
        self.assertEqual(file.read(6), [1, 2, 3, 77, 5, 6])

    def test_a_cut(self):
        for size, expected in ((0, []), (3, [1, 2, 3]), (None, []), (50, TEN)):
            device, file = self.primed()
            file.cut(size)
            self.assertEqual(file.read(), expected)

    def test_a_cut_and_a_growing(self):
        device, file = self.primed()
        file.cut(2)
        device.grow([77, 78])
        self.assertEqual(file.read(), [1, 2, 77, 78])

    def test_a_cut_that_the_raw_fails_changes_nothing(self):
        device = Device(TEN, plan=[8, -7])
        file = File(device, room=8)
        file.peek()
        self.assertEqual(outcome(file.cut, 2), FAULT_7)
        self.assertEqual((device.content(), file.size()), (TEN, 10))
        self.assertEqual(asks_of(device, file.read, 8), (told(TEN[:8]), []))

    def test_a_growing(self):
        device, file = self.primed(row=[1, 2, 3])
        device.grow([4, 5])
        self.assertEqual(file.read(), [1, 2, 3, 4, 5])
        device.grow([6])
        self.assertEqual(file.read(1), [6])

    def test_a_growing_and_a_stall(self):
        device = Device([1, 2, 3], plan=[8, 0, 0, 0])
        file = File(device, room=8)
        self.assertEqual(file.read(1), [1])
        device.grow([4])
        answer = file.read()
        # What is known ahead of the growing may still be told; nothing else may.
        self.assertIn(answer, (None, [2, 3]))

    def test_a_growing_where_the_raw_does_not_seek_is_no_turn(self):
        device = Device([1, 2, 3], seeks=False)
        file = File(device, room=8, reads=True, writes=False)
        self.assertEqual(file.read(1), [1])
        device.grow([4, 5])
        self.assertEqual(asks_of(device, file.read, 2), (told([2, 3]), []))
        self.assertEqual(file.read(), [4, 5])

    def test_noughts_of_a_gap(self):
        device, file = self.primed(row=[1, 2])
        file.seek(4)
        file.write([9])
        file.seek(0)
        self.assertEqual(file.read(), [1, 2, 0, 0, 9])


class FewAsks(unittest.TestCase):
    def test_nothing_is_asked_by_a_count_of_0(self):
        device = Device(TEN)
        file = File(device)
        for word in ("read", "read_some", "peek", "readline"):
            self.assertEqual(asks_of(device, getattr(file, word), 0), (told([]), []))
        file.write([1, 2])
        for word in ("read", "read_some", "peek", "readline"):
            self.assertEqual(asks_of(device, getattr(file, word), 0), (told([]), []))
        self.assertEqual(file.waiting(), [1, 2])

    def test_nothing_is_asked_by_questions(self):
        device = Device(TEN)
        file = File(device)
        file.write([1])
        for word in ("tell", "size", "waiting", "closed", "lost", "busy"):
            self.assertEqual(asks_of(device, getattr(file, word))[1], [])

    def test_nothing_is_asked_where_enough_is_known(self):
        for word, handed, expected in (
            ("read", (3,), [1, 2, 10]), ("read", (8,), LINES), ("readline", (), [1, 2, 10]),
            ("readline", (3,), [1, 2, 10]), ("readline", (2,), [1, 2]), ("peek", (), [1]),
        ):
            device = Device(LINES + LINES)
            file = File(device, room=8)
            self.assertEqual(file.peek(), [1])
            with self.subTest(word=word, handed=handed):
                self.assertEqual(asks_of(device, getattr(file, word), *handed), (told(expected), []))

    def test_one_known_byte_is_enough_for_read_some_and_peek(self):
        for word in ("read_some", "peek"):
            device = Device(TEN + TEN, plan=[8])
            file = File(device, room=8)
            self.assertEqual(file.read(7), TEN[:7])
            self.assertEqual(asks_of(device, getattr(file, word), 20), (told([8]), []))

    def test_a_read_without_a_count_always_asks(self):
        device = Device([1, 2, 3])
        file = File(device, room=8)
        file.peek()
        answer, asks = asks_of(device, file.read)
        self.assertEqual((answer, [ask[3] for ask in asks if ask[0] == "take"]), (told([1, 2, 3]), [[]]))

    def test_each_take_asks_for_a_room_at_least(self):
        for room in (1, 5, 8, 64):
            for word, handed in (("read", (1,)), ("read", ()), ("read_some", (1,)), ("peek", ()), ("readline", (1,))):
                device = Device(TEN * 10)
                file = File(device, room=room)
                answer, asks = asks_of(device, getattr(file, word), *handed)
                self.assertTrue(all(ask[2] >= room for ask in asks if ask[0] == "take"), asks)

    def test_one_take_at_most_by_read_some_and_peek(self):
        for word in ("read_some", "peek"):
            device = Device(TEN, plan=[2, 2, 2])
            file = File(device, room=8)
            answer, asks = asks_of(device, getattr(file, word), 9)
            self.assertEqual((answer, words_of(asks)), (told([1, 2]), ["take"]))

    def test_no_take_follows_the_end(self):
        for word, handed in (("read", ()), ("read", (50,)), ("readline", ()), ("readline", (50,))):
            device = Device([1, 2, 3])
            answer, asks = asks_of(device, getattr(File(device, room=8), word), *handed)
            takes = [ask[3] for ask in asks]
            self.assertEqual((answer, takes.count([])), (told([1, 2, 3]), 1))
            self.assertEqual(takes[-1], [])

    def test_no_take_follows_where_enough_is_known(self):
        device = Device(LINES, plan=[1, 1, 1, 1])
        file = File(device, room=8)
        answer, asks = asks_of(device, file.readline)
        self.assertEqual((answer, [ask[3] for ask in asks]), (told([1, 2, 10]), [[1], [2], [10]]))
        answer, asks = asks_of(device, file.read, 1)
        self.assertEqual((answer, [ask[3] for ask in asks]), (told([3]), [[3]]))

    def test_a_whole_row_in_few_takes(self):
        row = [at % 251 for at in range(100)]
        for room in (1, 7, 8, 64):
            for step in (lambda file: file.read(1), lambda file: file.read_some(3), lambda file: file.readline(),
                         lambda file: file.readline(2), lambda file: file.read(30), lambda file: file.read()):
                device = Device(row)
                file = File(device, room=room)
                gathered = []
                while len(gathered) < 100:
                    gathered += step(file)
                self.assertEqual(gathered, row)
                self.assertLessEqual(words_of(device.log()).count("take"), 100 // room + 2)

    def test_a_seek_to_the_own_place(self):
        device = Device(TEN)
        file = File(device)
        file.read(2)
        for place, start in ((2, "head"), (0, "here"), (-8, "tail")):
            self.assertEqual(asks_of(device, lambda: file.seek(place, start=start)), (told(2), []))
        self.assertEqual(asks_of(device, file.read, 6), (told(TEN[2:8]), []))
        file.write([5])
        self.assertEqual(asks_of(device, file.seek, 9), (told(9), []))
        self.assertEqual(file.waiting(), [5])

    def test_a_seek_asks_two_goes_at_most(self):
        device = Device(TEN, plan=[8, 9, 1, 1, 1])
        file = File(device, room=8)
        file.read(1)
        file.write([7, 7, 7])
        answer, asks = asks_of(device, file.seek, 0)
        self.assertEqual(answer, told(0))
        self.assertLessEqual(words_of(asks).count("go"), 2)
        self.assertEqual(words_of(asks).count("take"), 0)
        self.assertEqual(device.content(), [1, 7, 7, 7] + TEN[4:])

    def test_the_watch_itself_sees_a_row_of_calls(self):
        watch = Watch(self, TEN, plan=[3, 0, -7, 8], room=4)
        for word, handed in (("read", (5,)), ("peek", ()), ("read", ()), ("write", ([1, 2],)), ("readline", ())):
            watch.call(word, *handed)
        self.assertEqual(len(watch.story), 5)


class PutFirst(unittest.TestCase):
    """Reading calls put what waits first (17)."""

    CALLS = (("read", (2,)), ("read", ()), ("read_some", (2,)), ("peek", ()), ("readline", ()))

    def test_it_is_put_ahead_of_the_take(self):
        for word, handed in self.CALLS:
            device = Device(TEN)
            file = File(device)
            file.write([77, 78])
            answer, asks = asks_of(device, getattr(file, word), *handed)
            self.assertEqual(words_of(asks)[:2], ["put", "take"])
            self.assertEqual((device.content(), file.waiting()), ([77, 78] + TEN[2:], []))
            self.assertEqual(answer[1][0], 3)

    def test_where_a_put_stalls(self):
        for word, handed in self.CALLS:
            device = Device(TEN, plan=[1, 0])
            file = File(device)
            file.write([77, 78])
            answer, asks = asks_of(device, getattr(file, word), *handed)
            self.assertEqual((answer, words_of(asks)), (STALLED, ["put", "put"]))
            self.assertEqual((file.waiting(), file.tell(), device.content()), ([78], 2, [77] + TEN[1:]))

    def test_where_a_put_fails(self):
        for word, handed in self.CALLS:
            device = Device(TEN, plan=[-7])
            file = File(device)
            file.write([77, 78])
            answer, asks = asks_of(device, getattr(file, word), *handed)
            self.assertEqual((answer, words_of(asks)), (FAULT_7, ["put"]))
            self.assertEqual((file.waiting(), file.tell(), device.content()), ([77, 78], 2, TEN))


if __name__ == "__main__":
    unittest.main()
