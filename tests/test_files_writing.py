"""Points 17, 19 and 20: writing, what waits, and how it is put through stalls and faults."""

import unittest

from helper import FAULT_7, STALLED, asks_of, outcome, refused, told, words_of
from sipstack.device import Device
from sipstack.files import File
from sipstack.rows import laid

TEN = [1, 2, 3, 4, 5, 6, 7, 8, 9, 10]
WRITE_ONLY = {"reads": False, "writes": True}


def row_of(device, file):
    """The file's row by point 15: the raw's row with what waits laid over it, to end at the cursor."""
    waits = file.waiting()
    return laid(device.content(), file.tell() - len(waits), waits)


def put_bytes(device):
    return [byte for word, _, data, came in device.log() if word == "put" and came not in ("stall", "fault")
            for byte in data[:came]]


class Waiting(unittest.TestCase):
    def test_up_to_the_room_nothing_is_asked(self):
        for room in (1, 8, 64):
            device = Device(TEN)
            file = File(device, room=room)
            for at in range(room):
                self.assertEqual(asks_of(device, file.write, [at]), (told(1), []))
            self.assertEqual((file.waiting(), file.tell()), (list(range(room)), room))
            self.assertEqual(device.content(), TEN)
            answer, asks = asks_of(device, file.write, [99])
            self.assertEqual((answer, words_of(asks)), (told(1), ["put"]))
            self.assertEqual(row_of(device, file)[:room + 1], list(range(room)) + [99])

    def test_a_room_full_at_once(self):
        device = Device([])
        file = File(device, room=8)
        self.assertEqual(asks_of(device, file.write, [1] * 8), (told(8), []))
        self.assertEqual(file.waiting(), [1] * 8)

    def test_no_bytes(self):
        device = Device(TEN)
        file = File(device, room=2)
        self.assertEqual(asks_of(device, file.write, []), (told(0), []))
        file.write([1, 2])
        self.assertEqual(asks_of(device, file.write, []), (told(0), []))
        self.assertEqual((file.waiting(), file.tell()), ([1, 2], 2))
        file.seek(50)
        self.assertEqual((file.write([]), file.size()), (0, 10))

    def test_many_bytes(self):
        for room in (1, 8, 64):
            device = Device(TEN)
            file = File(device, room=room)
            data = [at % 256 for at in range(300)]
            self.assertEqual((file.write(data), file.tell(), file.size()), (300, 300, 300))
            self.assertLessEqual(len(file.waiting()), room)
            self.assertEqual(row_of(device, file), data)
            self.assertEqual(put_bytes(device) + file.waiting(), data)

    def test_size_counts_what_waits(self):
        device = Device([1, 2, 3])
        file = File(device)
        file.seek(2)
        file.write([8, 9])
        self.assertEqual((file.size(), device.size()), (4, 3))
        file.seek(1)
        file.write([7])
        self.assertEqual((file.size(), device.content()), (4, [1, 2, 8, 9]))
        self.assertEqual(row_of(device, file), [1, 7, 8, 9])

    def test_behind_the_end_the_gap_is_noughts(self):
        device = Device([1])
        file = File(device)
        file.seek(4)
        file.write([9])
        self.assertEqual((file.size(), device.content()), (5, [1]))
        file.flush()
        self.assertEqual((device.content(), file.tell()), ([1, 0, 0, 0, 9], 5))


class Places(unittest.TestCase):
    def test_what_waits_is_put_at_its_own_place(self):
        device = Device(TEN)
        file = File(device, room=4)
        self.assertEqual(file.read(2), [1, 2])
        file.write([77, 78])
        self.assertEqual(file.read(2), [5, 6])
        self.assertEqual(device.content(), [1, 2, 77, 78] + TEN[4:])
        file.write([79])
        file.flush()
        self.assertEqual(device.content(), [1, 2, 77, 78, 5, 6, 79, 8, 9, 10])

    def test_no_go_but_to_the_eldest(self):
        device = Device(TEN, plan=[8, 1, 1, 1, 1])
        file = File(device, room=8)
        file.read(2)
        file.write([77, 78, 79])
        answer, asks = asks_of(device, file.seek, 9)
        self.assertEqual([ask[1] for ask in asks if ask[0] == "put"], [2, 3, 4])
        last_put = max(at for at, ask in enumerate(asks) if ask[0] == "put")
        self.assertEqual({ask[2] for ask in asks[:last_put] if ask[0] == "go"}, {2})
        self.assertEqual((answer, device.content()), (told(9), [1, 2, 77, 78, 79] + TEN[5:]))

    def test_each_put_hands_all_that_waits(self):
        device = Device([], plan=[1, 2, 400])
        file = File(device, room=8)
        file.write([1, 2, 3, 4, 5])
        file.flush()
        self.assertEqual(device.log(), [
            ("put", 0, [1, 2, 3, 4, 5], 1), ("put", 1, [2, 3, 4, 5], 2), ("put", 3, [4, 5], 2),
        ])

    def test_the_puts_of_a_write_begin_with_what_waits(self):
        device = Device([])
        file = File(device, room=4)
        file.write([1, 2, 3])
        file.write([4, 5, 6])
        word, place, handed, came = device.log()[0]
        self.assertEqual((word, place, handed[:3]), ("put", 0, [1, 2, 3]))
        self.assertEqual(handed, [1, 2, 3, 4, 5, 6][:len(handed)])


class StalledWrites(unittest.TestCase):
    def test_as_many_go_in_as_the_room(self):
        device = Device([], plan=[0])
        file = File(device, room=4)
        self.assertEqual(outcome(file.write, [1, 2, 3, 4, 5, 6]), refused("Stalled", taken=4))
        self.assertEqual((file.waiting(), file.tell(), file.size()), ([1, 2, 3, 4], 4, 4))
        self.assertEqual(file.write([5, 6]), 2)
        file.flush()
        self.assertEqual(device.content(), [1, 2, 3, 4, 5, 6])

    def test_behind_bytes_that_wait(self):
        device = Device([], plan=[0, 0])
        file = File(device, room=4)
        file.write([1, 2, 3])
        self.assertEqual(outcome(file.write, [4, 5, 6]), refused("Stalled", taken=1))
        self.assertEqual((file.waiting(), file.tell()), ([1, 2, 3, 4], 4))
        self.assertEqual(outcome(file.write, [5, 6]), refused("Stalled", taken=0))
        self.assertEqual((file.waiting(), file.tell()), ([1, 2, 3, 4], 4))
        self.assertEqual(file.write([5, 6]), 2)
        file.flush()
        self.assertEqual(put_bytes(device), [1, 2, 3, 4, 5, 6])

    def test_behind_bytes_that_the_raw_took(self):
        device = Device([], plan=[3, 0])
        file = File(device, room=4)
        file.write([1, 2])
        answer = outcome(file.write, [3, 4, 5, 6, 7, 8, 9])
        taken = answer[2]["taken"]
        self.assertEqual(answer, refused("Stalled", taken=taken))
        self.assertEqual(len(file.waiting()), 4)
        self.assertEqual(put_bytes(device) + file.waiting(), [1, 2, 3, 4, 5, 6, 7, 8, 9][:2 + taken])
        self.assertEqual(file.tell(), 2 + taken)

    def test_where_all_go_in_it_is_told(self):
        device = Device([], plan=[2, 0, 0])
        file = File(device, room=4)
        self.assertEqual(outcome(file.write, [1, 2, 3, 4, 5]), told(5))
        self.assertEqual(put_bytes(device) + file.waiting(), [1, 2, 3, 4, 5])

    def test_whoever_hands_in_the_rest_goes_on_rightly(self):
        data = list(range(50))
        for room in (1, 3, 8, 64):
            for numbers in ((0, 1), (0, 0, 3), (-7, 2), (0, -7, 1, 5)):
                device = Device(TEN, plan=list(numbers) * 60)
                file = File(device, room=room)
                rest = list(data)
                while rest:
                    answer = outcome(file.write, rest)
                    many = answer[1] if answer[0] == "told" else answer[2]["taken"]
                    rest = rest[many:]
                    self.assertEqual(file.tell(), len(data) - len(rest))
                while outcome(file.flush) != told(None):
                    self.assertEqual(row_of(device, file), data)
                self.assertEqual((device.content(), put_bytes(device)), (data, data))

    def test_no_ask_follows_a_stall(self):
        device = Device([], plan=[1, 0, 1, 1])
        file = File(device, room=2)
        answer, asks = asks_of(device, file.write, [1, 2, 3, 4, 5, 6])
        self.assertEqual(asks[-1][3], "stall")
        self.assertEqual([ask[3] for ask in asks].count("stall"), 1)


class FailedWrites(unittest.TestCase):
    def failed(self, file, device, data):
        before = put_bytes(device) + file.waiting()
        cursor = file.tell()
        answer = outcome(file.write, data)
        taken = answer[2]["taken"]
        self.assertEqual(answer, refused("Fault", number=7, taken=taken))
        self.assertEqual(file.tell(), cursor + taken)
        self.assertEqual(put_bytes(device) + file.waiting(), before + data[:taken])
        self.assertLessEqual(len(file.waiting()), 4)
        return taken

    def test_the_first_put_fails(self):
        device = Device([], plan=[-7])
        file = File(device, room=4)
        taken = self.failed(file, device, [1, 2, 3, 4, 5, 6])
        self.assertLess(taken, 6)
        self.assertEqual((device.content(), file.size()), ([], taken))

    def test_a_later_put_fails(self):
        device = Device([], plan=[1, -7])
        file = File(device, room=4)
        file.write([1, 2])
        taken = self.failed(file, device, [3, 4, 5, 6, 7, 8])
        self.assertEqual(file.write([3, 4, 5, 6, 7, 8][taken:]), 6 - taken)
        file.flush()
        self.assertEqual(device.content(), [1, 2, 3, 4, 5, 6, 7, 8])

    def test_the_go_fails(self):
        device = Device(TEN, plan=[8, -7])
        file = File(device, room=4)
        file.read(1)
        taken = self.failed(file, device, [71, 72, 73, 74, 75, 76])
        self.assertEqual(device.content(), TEN)
        self.assertEqual(file.write([71, 72, 73, 74, 75, 76][taken:]), 6 - taken)
        file.flush()
        self.assertEqual(device.content(), [1, 71, 72, 73, 74, 75, 76, 8, 9, 10])

    def test_a_full_room_that_fails(self):
        device = Device([], plan=[-7])
        file = File(device, room=4)
        file.write([1, 2, 3, 4])
        self.assertEqual(self.failed(file, device, [5]), 0)


class PutFirst(unittest.TestCase):
    """flush, seek, cut and detach begin with putting all that waits."""

    def calls(self, file):
        return (file.flush, lambda: file.seek(0), lambda: file.cut(1), file.cut, file.detach)

    def test_what_they_do(self):
        for at in range(5):
            device = Device(TEN)
            file = File(device)
            file.write([77, 78, 79])
            answer, asks = asks_of(device, self.calls(file)[at])
            self.assertEqual((answer[0], words_of(asks)[0]), ("told", "put"))
            self.assertEqual(asks[0][2], [77, 78, 79])

    def test_where_a_put_stalls(self):
        for at in range(5):
            device = Device(TEN, plan=[2, 0])
            file = File(device)
            file.write([77, 78, 79])
            answer, asks = asks_of(device, self.calls(file)[at])
            self.assertEqual((answer, words_of(asks)), (STALLED, ["put", "put"]))
            self.assertEqual((file.waiting(), file.tell(), file.closed()), ([79], 3, False))
            self.assertEqual(row_of(device, file), [77, 78, 79] + TEN[3:])

    def test_where_a_put_fails(self):
        for at in range(5):
            device = Device(TEN, plan=[1, -7])
            file = File(device)
            file.write([77, 78, 79])
            answer, asks = asks_of(device, self.calls(file)[at])
            self.assertEqual((answer, words_of(asks)), (FAULT_7, ["put", "put"]))
            self.assertEqual((file.waiting(), file.tell(), file.closed()), ([78, 79], 3, False))
            self.assertEqual(row_of(device, file), [77, 78, 79] + TEN[3:])

    def test_where_the_go_to_the_eldest_fails(self):
        for at in range(5):
            device = Device(TEN, plan=[8, -7])
            file = File(device)
            file.read(1)
            file.write([77, 78])
            answer, asks = asks_of(device, self.calls(file)[at])
            self.assertEqual((answer, words_of(asks), asks[0][2]), (FAULT_7, ["go"], 1))
            self.assertEqual((file.waiting(), file.tell()), ([77, 78], 3))

    def test_asked_again_they_go_on(self):
        device = Device(TEN, plan=[1, 0, 1, -7])
        file = File(device)
        file.write([77, 78, 79])
        self.assertEqual([outcome(file.flush) for _ in range(3)], [STALLED, FAULT_7, told(None)])
        self.assertEqual((put_bytes(device), file.waiting()), ([77, 78, 79], []))
        self.assertEqual(asks_of(device, file.flush), (told(None), []))

    def test_a_flush_where_nothing_waits(self):
        device = Device(TEN, plan=[8, -7])
        file = File(device)
        self.assertEqual(asks_of(device, file.flush), (told(None), []))
        file.read(1)
        self.assertEqual(asks_of(device, file.flush), (told(None), []))


class SeeksAndCuts(unittest.TestCase):
    def test_each_start_with_bytes_waiting(self):
        for place, start, goal in ((5, "head", 5), (-1, "here", 1), (0, "tail", 10), (3, "tail", 13), (9, "here", 11)):
            device = Device(TEN)
            file = File(device)
            file.write([77, 78])
            self.assertEqual((file.seek(place, start=start), file.tell()), (goal, goal))
            self.assertEqual((device.content(), file.waiting()), ([77, 78] + TEN[2:], []))

    def test_tail_counts_what_waits(self):
        file = File(Device([1]))
        file.write([7, 8, 9])
        self.assertEqual(file.seek(-1, start="tail"), 2)
        self.assertEqual(file.read(), [9])

    def test_a_cut_asks_one_cut(self):
        for handed, size in (((), 3), ((None,), 3), ((1,), 1), ((0,), 0), ((10,), 10), ((50,), 50)):
            device = Device(TEN)
            file = File(device)
            file.read(3)
            answer, asks = asks_of(device, file.cut, *handed)
            self.assertEqual(answer, told(None))
            self.assertLessEqual(words_of(asks).count("cut"), 1)
            self.assertEqual((device.content(), file.tell(), file.size()), (TEN[:size], 3, min(10, size)))

    def test_a_cut_behind_bytes_that_wait(self):
        device = Device(TEN)
        file = File(device)
        file.write([77, 78])
        file.cut()
        self.assertEqual((device.content(), file.tell()), ([77, 78], 2))
        file.write([79])
        file.cut(1)
        self.assertEqual((device.content(), file.tell(), file.size()), ([77], 3, 1))
        file.write([80])
        self.assertEqual(file.size(), 4)
        file.flush()
        self.assertEqual(device.content(), [77, 0, 0, 80])

    def test_a_cut_that_fails(self):
        device = Device(TEN, plan=[-7])
        file = File(device)
        self.assertEqual(outcome(file.cut, 2), FAULT_7)
        self.assertEqual((device.content(), file.size(), file.tell()), (TEN, 10, 0))
        file.cut(2)
        self.assertEqual((device.content(), file.size()), ([1, 2], 2))

    def test_what_grew_below_bytes_that_wait(self):
        device = Device([1, 2])
        file = File(device)
        file.seek(2)
        file.write([9])
        device.grow([5, 6])
        self.assertEqual((file.size(), row_of(device, file)), (4, [1, 2, 9, 6]))
        file.seek(0)
        self.assertEqual(file.read(), [1, 2, 9, 6])


class WithoutSeeking(unittest.TestCase):
    def test_each_byte_once(self):
        device = Device([], plan=[2, 0, -7, 1, 0, 3], seeks=False)
        file = File(device, room=3, **WRITE_ONLY)
        data, rest = list(range(20)), list(range(20))
        while rest:
            answer = outcome(file.write, rest[:7])
            many = answer[1] if answer[0] == "told" else answer[2]["taken"]
            rest = rest[many:]
            self.assertEqual(put_bytes(device) + file.waiting(), data[:len(data) - len(rest)])
            self.assertEqual(file.tell(), len(data) - len(rest))
        file.flush()
        self.assertEqual((device.content(), put_bytes(device)), (data, data))


if __name__ == "__main__":
    unittest.main()
