"""Point 21: flush, waiting, close, lost, detach; point 36 of a file; and every call of a closed file (3)."""

import unittest

from helper import FAULT_7, STALLED, asks_of, outcome, refused, told, words_of
from sipstack.device import Device
from sipstack.files import File
from sipstack.pipe import Pipe
from sipstack.words import LONGEST

TEN = [1, 2, 3, 4, 5, 6, 7, 8, 9, 10]
READ_ONLY = {"reads": True, "writes": False}
WRITE_ONLY = {"reads": False, "writes": True}

REFUSED_WHEN_CLOSED = (
    ("read", (), {}), ("read", (0,), {}), ("read", (-1,), {}), ("read_some", (1,), {}), ("read_some", (-1,), {}),
    ("peek", (), {}), ("peek", (-1,), {}), ("readline", (), {}), ("readline", (-1,), {}), ("write", ([],), {}),
    ("write", ([1],), {}), ("write", ([True],), {}), ("write", ([0] * (LONGEST + 1),), {}), ("seek", (0,), {}),
    ("seek", (-1,), {}), ("seek", (0,), {"start": "no"}), ("tell", (), {}), ("size", (), {}), ("cut", (), {}),
    ("cut", (-1,), {}), ("flush", (), {}), ("waiting", (), {}), ("detach", (), {}),
)


class Closed(unittest.TestCase):
    def check_closed(self, device, file, lost):
        for word, handed, named in REFUSED_WHEN_CLOSED:
            with self.subTest(word=word, handed=handed):
                self.assertEqual(asks_of(device, getattr(file, word), *handed, **named), (refused("Closed"), []))
        self.assertIs(file.closed(), True)
        self.assertIs(file.busy(), False)
        self.assertEqual(file.lost(), lost)
        self.assertEqual(asks_of(device, file.close), (told(None), []))
        self.assertEqual((file.closed(), file.lost()), (True, lost))

    def test_every_call(self):
        for seeks, kinds in ((True, ({}, READ_ONLY, WRITE_ONLY)), (False, (READ_ONLY, WRITE_ONLY))):
            for kind in kinds:
                device = Device(TEN, seeks=seeks)
                file = File(device, **kind)
                self.assertIsNone(file.close())
                self.check_closed(device, file, [])
                device = Device(TEN, seeks=seeks)
                file = File(device, **kind)
                file.detach()
                self.check_closed(device, file, [])

    def test_behind_a_refused_close(self):
        device = Device(TEN, plan=[0])
        file = File(device)
        file.write([77])
        self.assertEqual(outcome(file.close), STALLED)
        self.check_closed(device, file, [77])


class Closes(unittest.TestCase):
    def test_one_that_is_told(self):
        device = Device(TEN, plan=[1, 1])
        file = File(device)
        file.write([77, 78, 79])
        self.assertEqual(file.lost(), [])
        self.assertIs(file.closed(), False)
        self.assertIsNone(file.close())
        self.assertEqual((device.content(), device.is_shut()), ([77, 78, 79] + TEN[3:], True))
        self.assertEqual((file.closed(), file.lost()), (True, []))

    def test_one_where_nothing_waits(self):
        device = Device(TEN, plan=[8, -7])
        file = File(device)
        file.read(3)
        self.assertEqual(asks_of(device, file.close), (told(None), []))
        self.assertEqual((device.is_shut(), file.closed(), file.lost()), (True, True, []))

    def test_one_where_a_put_stalls(self):
        device = Device(TEN, plan=[2, 0, 9])
        file = File(device)
        file.write([77, 78, 79])
        answer, asks = asks_of(device, file.close)
        self.assertEqual((answer, words_of(asks)), (STALLED, ["put", "put"]))
        self.assertEqual((device.content(), device.is_shut()), ([77, 78] + TEN[2:], True))
        self.assertEqual((file.closed(), file.lost()), (True, [79]))
        self.assertEqual(asks_of(device, file.close), (told(None), []))
        self.assertEqual(file.lost(), [79])

    def test_one_where_a_put_fails(self):
        device = Device(TEN, plan=[-7])
        file = File(device)
        file.write([77, 78, 79])
        self.assertEqual(outcome(file.close), FAULT_7)
        self.assertEqual((device.content(), device.is_shut()), (TEN, True))
        self.assertEqual((file.closed(), file.lost()), (True, [77, 78, 79]))

    def test_one_where_a_go_fails(self):
        device = Device(TEN, plan=[8, -7])
        file = File(device)
        file.read(1)
        file.write([77])
        self.assertEqual(outcome(file.close), FAULT_7)
        self.assertEqual((file.closed(), file.lost(), device.is_shut()), (True, [77], True))

    def test_upon_the_ends_of_a_pipe(self):
        pipe = Pipe(room=2)
        writer = File(pipe.into(), **WRITE_ONLY)
        reader = File(pipe.out(), **READ_ONLY)
        writer.write([1, 2, 3])
        self.assertEqual(outcome(writer.close), STALLED)
        self.assertEqual((writer.lost(), pipe.into().is_shut(), pipe.held()), ([3], True, [1, 2]))
        self.assertEqual([reader.read(), reader.read()], [[1, 2], []])
        reader.close()
        self.assertIs(pipe.out().is_shut(), True)


class Detaches(unittest.TestCase):
    def test_upon_a_raw_that_seeks(self):
        device = Device(TEN)
        file = File(device, room=8)
        self.assertEqual(file.read(3), [1, 2, 3])
        raw, rest = file.detach()
        self.assertIs(raw, device)
        self.assertEqual((rest, device.place(), device.is_shut()), ([], 3, False))
        self.assertEqual(device.take(2), [4, 5])
        self.assertEqual(File(device).read(), TEN[5:])

    def test_the_kind_of_what_is_told(self):
        for seeks in (True, False):
            answer = File(Device([1], seeks=seeks), **READ_ONLY).detach()
            self.assertIs(type(answer), tuple)
            self.assertEqual(len(answer), 2)
            self.assertIs(type(answer[1]), list)

    def test_behind_a_seek_and_a_write(self):
        device = Device(TEN)
        file = File(device)
        file.seek(7)
        self.assertEqual((file.detach()[1], device.place()), ([], 7))
        file = File(device)
        file.write([77])
        file.detach()
        self.assertEqual((device.place(), device.content()), (8, TEN[:7] + [77] + TEN[8:]))
        file = File(device)
        file.seek(50)
        file.detach()
        self.assertEqual((device.place(), device.size()), (50, 10))

    def test_upon_a_raw_that_does_not_seek(self):
        device = Device(TEN, plan=[6], seeks=False)
        file = File(device, room=8, **READ_ONLY)
        self.assertEqual(file.read(2), [1, 2])
        raw, rest = file.detach()
        self.assertIs(raw, device)
        self.assertEqual(rest, [3, 4, 5, 6])
        self.assertEqual((device.is_shut(), device.take(50)), (False, TEN[6:]))

    def test_rest_behind_a_fault_and_a_peek(self):
        device = Device(TEN, plan=[3, -7], seeks=False)
        file = File(device, room=8, **READ_ONLY)
        outcome(file.read)
        self.assertEqual(file.detach()[1], [1, 2, 3])
        device = Device(TEN, plan=[3], seeks=False)
        file = File(device, room=8, **READ_ONLY)
        file.peek()
        self.assertEqual(file.detach()[1], [1, 2, 3])
        self.assertEqual(file.lost(), [])

    def test_rest_where_all_was_told_and_where_nothing_was_asked(self):
        device = Device([1, 2], seeks=False)
        file = File(device, **READ_ONLY)
        file.read()
        self.assertEqual(file.detach()[1], [])
        device = Device([1, 2], seeks=False)
        self.assertEqual(File(device, **READ_ONLY).detach()[1], [])
        self.assertEqual(device.take(5), [1, 2])

    def test_of_a_file_that_writes_without_seeking(self):
        device = Device([], seeks=False)
        file = File(device, **WRITE_ONLY)
        file.write([1, 2])
        raw, rest = file.detach()
        self.assertEqual((rest, device.content(), device.is_shut()), ([], [1, 2], False))

    def test_one_that_is_refused_has_detached_nothing(self):
        device = Device(TEN, plan=[1, 0, -7])
        file = File(device)
        file.write([77, 78])
        self.assertEqual(outcome(file.detach), STALLED)
        self.assertEqual((file.closed(), file.waiting(), file.tell(), file.lost()), (False, [78], 2, []))
        self.assertEqual(outcome(file.detach), FAULT_7)
        self.assertEqual((file.closed(), file.waiting(), file.tell()), (False, [78], 2))
        raw, rest = file.detach()
        self.assertEqual((rest, file.closed(), device.content()), ([], True, [77, 78] + TEN[2:]))

    def test_one_whose_go_fails(self):
        device = Device(TEN, plan=[8, -7])
        file = File(device, room=8)
        file.read(3)
        self.assertEqual(outcome(file.detach), FAULT_7)
        self.assertEqual((file.closed(), file.tell()), (False, 3))
        self.assertEqual(asks_of(device, file.read, 5), (told(TEN[3:8]), []))
        file.detach()
        self.assertEqual((device.place(), device.is_shut()), (8, False))

    def test_what_was_told_is_the_askers_own(self):
        device = Device(TEN, seeks=False)
        file = File(device, **READ_ONLY)
        file.read(1)
        raw, rest = file.detach()
        rest.append(77)
        self.assertEqual((device.content(), file.lost()), (TEN, []))


class Flushes(unittest.TestCase):
    def test_all_that_waits_is_put_and_the_cursor_stays(self):
        device = Device(TEN)
        file = File(device)
        file.seek(3)
        file.write([77, 78])
        self.assertEqual(file.waiting(), [77, 78])
        self.assertIsNone(file.flush())
        self.assertEqual((file.waiting(), file.tell()), ([], 5))
        self.assertEqual(device.content(), [1, 2, 3, 77, 78] + TEN[5:])
        self.assertEqual(file.read(2), [6, 7])


if __name__ == "__main__":
    unittest.main()
