"""Points 14 and 15: how a file is made, what it refuses, and where it stands at first."""

import unittest

from helper import asks_of, outcome, refused, told
from sipstack.device import Device
from sipstack.files import File
from sipstack.pipe import Pipe
from sipstack.words import LONGEST, ROOM

READ_ONLY = {"reads": True, "writes": False}
WRITE_ONLY = {"reads": False, "writes": True}


def shut_device(**named):
    device = Device([1, 2, 3], **named)
    device.shut()
    return device


def made(raw, **named):
    answer = outcome(lambda: File(raw, **named))
    return answer if answer[0] == "refused" else "made"


class Made(unittest.TestCase):
    def test_upon_a_shut_raw(self):
        self.assertEqual(made(shut_device()), refused("Closed"))
        self.assertEqual(made(shut_device(), room=0), refused("Closed"))
        self.assertEqual(made(shut_device(seeks=False), room=0), refused("Closed"))
        pipe = Pipe()
        pipe.out().shut()
        self.assertEqual(made(pipe.out(), **READ_ONLY), refused("Closed"))

    def test_rooms(self):
        for room in (0, 65, -1, 10 ** 9, True, False, None, "8"):
            self.assertEqual(made(Device([1]), room=room), refused("BadRoom"))
            self.assertEqual(made(Device([1], seeks=False), room=room), refused("BadRoom"))
        for room in (1, 8, 63, 64):
            self.assertEqual(made(Device([1]), room=room), "made")

    def test_both_only_upon_a_raw_that_seeks(self):
        device = Device([1], seeks=False)
        self.assertEqual(made(device), refused("NoSeek"))
        self.assertEqual(made(device, reads=True, writes=True), refused("NoSeek"))
        self.assertEqual(made(device, **READ_ONLY), "made")
        self.assertEqual(made(device, **WRITE_ONLY), "made")
        self.assertEqual(made(Pipe().out()), refused("NoSeek"))
        self.assertEqual(made(Pipe().into()), refused("NoSeek"))

    def test_the_room_left_out(self):
        device = Device([])
        file = File(device)
        self.assertEqual(asks_of(device, file.write, [1] * ROOM), (told(ROOM), []))
        answer, asks = asks_of(device, file.write, [2])
        self.assertEqual(answer, told(1))
        self.assertNotEqual(asks, [])

    def test_nothing_is_asked(self):
        for seeks, kinds in ((True, ({}, READ_ONLY, WRITE_ONLY)), (False, (READ_ONLY, WRITE_ONLY))):
            for kind in kinds:
                device = Device([1, 2], plan=[-7], seeks=seeks)
                File(device, **kind)
                self.assertEqual((device.log(), device.left()), ([], 1))

    def test_at_first(self):
        file = File(Device([1, 2, 3]))
        self.assertEqual((file.tell(), file.size(), file.waiting(), file.lost()), (0, 3, [], []))
        self.assertIs(file.closed(), False)
        self.assertIs(file.busy(), False)

    def test_the_cursor_is_at_first_the_raws_place(self):
        for place in (0, 2, 3, 9, LONGEST):
            device = Device([1, 2, 3])
            device.go(place)
            self.assertEqual(File(device).tell(), place)
        device = Device([1, 2, 3])
        device.go(1)
        self.assertEqual(File(device).read(), [2, 3])

    def test_it_is_0_where_the_raw_does_not_seek(self):
        device = Device([1, 2, 3], seeks=False)
        device.take(2)
        file = File(device, **READ_ONLY)
        self.assertEqual(file.tell(), 0)
        self.assertEqual(file.read(), [3])
        self.assertEqual(file.tell(), 1)


class KindsOfFiles(unittest.TestCase):
    def refused_calls(self, file, device, calls, name):
        for word, handed, named in calls:
            with self.subTest(word=word, handed=handed):
                answer = asks_of(device, getattr(file, word), *handed, **named)
                self.assertEqual(answer, (refused(name), []))

    READS = tuple((word, (count,), {}) for word in ("read", "read_some", "peek", "readline") for count in (0, 1, -1))
    WRITES = (("write", ([],), {}), ("write", ([1],), {}), ("write", ([True],), {}), ("cut", (), {}),
              ("cut", (0,), {}), ("cut", (-1,), {}), ("cut", (LONGEST + 1,), {}))
    SEEKS = (("size", (), {}), ("seek", (0,), {}), ("seek", (0,), {"start": "here"}), ("seek", (-1,), {}),
             ("seek", (0,), {"start": "nowhere"}), ("seek", (LONGEST + 1,), {}))

    def test_one_that_does_not_read(self):
        for seeks in (True, False):
            device = Device([1, 2], seeks=seeks)
            file = File(device, **WRITE_ONLY)
            file.write([5])
            self.refused_calls(file, device, self.READS, "NoReads")
            self.assertEqual((file.waiting(), file.tell()), ([5], 1))

    def test_one_that_does_not_write(self):
        for seeks in (True, False):
            device = Device([1, 2], seeks=seeks)
            file = File(device, **READ_ONLY)
            self.refused_calls(file, device, self.WRITES, "NoWrites")
            self.assertEqual((device.content(), file.tell()), ([1, 2], 0))

    def test_one_upon_a_raw_that_does_not_seek(self):
        for kind in (READ_ONLY, WRITE_ONLY):
            device = Device([1, 2], seeks=False)
            self.refused_calls(File(device, **kind), device, self.SEEKS, "NoSeek")
        cuts = [call for call in self.WRITES if call[0] == "cut"]
        device = Device([1, 2], seeks=False)
        self.refused_calls(File(device, **WRITE_ONLY), device, cuts, "NoSeek")

    def test_one_that_only_reads_upon_a_raw_that_seeks(self):
        file = File(Device([1, 2, 3]), **READ_ONLY)
        self.assertEqual((file.size(), file.read(2), file.tell()), (3, [1, 2], 2))
        self.assertEqual((file.seek(-1, start="here"), file.read()), (1, [2, 3]))
        self.assertIsNone(file.flush())
        self.assertEqual(file.waiting(), [])

    def test_one_that_only_writes_upon_a_raw_that_seeks(self):
        device = Device([1, 2, 3])
        file = File(device, **WRITE_ONLY)
        file.seek(0, start="tail")
        file.write([4])
        self.assertEqual(file.size(), 4)
        file.cut(2)
        self.assertEqual((device.content(), file.tell(), file.size()), ([1, 2], 4, 2))


class RefusedAsAPlainFile(unittest.TestCase):
    CALLS = (
        ("read", (-1,), {}, refused("BadCount")),
        ("read_some", (-1,), {}, refused("BadCount")),
        ("peek", (-5,), {}, refused("BadCount")),
        ("readline", (-1,), {}, refused("BadCount")),
        ("write", ([1, 256],), {}, refused("NotByte", at=1)),
        ("write", ([1, 2, True],), {}, refused("NotByte", at=2)),
        ("write", ([1] * LONGEST + [False],), {}, refused("NotByte", at=LONGEST)),
        ("write", ([1] * LONGEST,), {}, refused("TooLong", length=LONGEST + 3)),
        ("seek", (0,), {"start": "Head"}, refused("BadStart")),
        ("seek", (-1,), {"start": ""}, refused("BadStart")),
        ("seek", (-1,), {}, refused("BadPlace", goal=-1)),
        ("seek", (-4,), {"start": "here"}, refused("BadPlace", goal=-1)),
        ("seek", (-7,), {"start": "tail"}, refused("BadPlace", goal=-2)),
        ("seek", (LONGEST + 1,), {}, refused("TooLong", length=LONGEST + 1)),
        ("seek", (LONGEST,), {"start": "here"}, refused("TooLong", length=LONGEST + 3)),
        ("seek", (LONGEST,), {"start": "tail"}, refused("TooLong", length=LONGEST + 5)),
        ("cut", (-1,), {}, refused("BadPlace", goal=-1)),
        ("cut", (LONGEST + 1,), {}, refused("TooLong", length=LONGEST + 1)),
    )

    def test_ahead_of_all_asks_and_nothing_is_changed(self):
        for word, handed, named, expected in self.CALLS:
            device = Device([1, 2, 3, 4, 5])
            file = File(device)
            file.seek(1)
            file.write([8, 9])
            with self.subTest(word=word, expected=expected):
                self.assertEqual(asks_of(device, getattr(file, word), *handed, **named), (expected, []))
                self.assertEqual((file.tell(), file.size(), file.waiting()), (3, 5, [8, 9]))
                self.assertEqual(device.content(), [1, 2, 3, 4, 5])

    def test_a_refused_write_is_no_turn(self):
        device = Device([1, 2, 3, 4])
        file = File(device, room=4)
        self.assertEqual(file.read(1), [1])
        for data in ([256], [], [0] * LONGEST):
            outcome(file.write, data)
        self.assertEqual(asks_of(device, file.read, 3), (told([2, 3, 4]), []))

    def test_the_row_counts_with_what_waits(self):
        device = Device([1])
        file = File(device)
        file.seek(LONGEST - 1)
        file.write([5])
        self.assertEqual((file.size(), file.tell()), (LONGEST, LONGEST))
        self.assertEqual(asks_of(device, file.write, [6]), (refused("TooLong", length=LONGEST + 1), []))
        self.assertEqual(file.write([]), 0)
        self.assertEqual(file.seek(-1, start="tail"), LONGEST - 1)
        self.assertEqual(file.read(), [5])

    def test_upon_a_raw_that_does_not_seek_no_write_is_too_long(self):
        device = Device([], seeks=False)
        file = File(device, **WRITE_ONLY)
        data = [at % 256 for at in range(LONGEST + 50)]
        self.assertEqual(file.write(data), LONGEST + 50)
        self.assertEqual(file.write(data), LONGEST + 50)
        file.flush()
        self.assertEqual((device.content(), file.tell()), (data + data, 2 * (LONGEST + 50)))
        self.assertEqual(outcome(file.write, [1, True]), refused("NotByte", at=1))


class UponPipes(unittest.TestCase):
    def test_bytes_go_through(self):
        pipe = Pipe(room=5)
        writer = File(pipe.into(), room=3, **WRITE_ONLY)
        reader = File(pipe.out(), room=2, **READ_ONLY)
        self.assertIsNone(reader.read(1))
        self.assertEqual(writer.write([1, 2, 3]), 3)
        self.assertEqual(pipe.held(), [])
        writer.flush()
        self.assertEqual(pipe.held(), [1, 2, 3])
        self.assertEqual(reader.read(2), [1, 2])
        self.assertEqual(reader.peek(), [3])
        self.assertEqual(reader.read(), [3])
        self.assertIsNone(reader.readline())
        writer.write([4, 10, 5])
        writer.close()
        self.assertEqual([reader.readline(), reader.read(), reader.read()], [[4, 10], [5], []])
        self.assertEqual((reader.tell(), writer.closed()), (6, True))

    def test_a_full_pipe_and_a_broken_one(self):
        pipe = Pipe(room=4)
        writer = File(pipe.into(), room=3, **WRITE_ONLY)
        data = list(range(10))
        self.assertEqual(outcome(writer.write, data), refused("Stalled", taken=7))
        self.assertEqual((pipe.held() + writer.waiting(), writer.tell()), (data[:7], 7))
        self.assertEqual(outcome(writer.flush), refused("Stalled", taken=0))
        pipe.out().shut()
        self.assertEqual(outcome(writer.flush), refused("Fault", number=99, taken=0))
        self.assertEqual((writer.waiting(), writer.tell()), ([4, 5, 6], 7))

    def test_more_than_longest_bytes(self):
        pipe = Pipe(room=64)
        writer = File(pipe.into(), room=64, **WRITE_ONLY)
        reader = File(pipe.out(), room=64, **READ_ONLY)
        for step in range(LONGEST // 50 + 2):
            self.assertEqual(writer.write([step % 256] * 50), 50)
            writer.flush()
            self.assertEqual(reader.read(50), [step % 256] * 50)
        self.assertEqual((writer.tell(), reader.tell()), (LONGEST + 100, LONGEST + 100))


class ListsOfPointTwo(unittest.TestCase):
    def test_a_written_row(self):
        for many in (3, 30):
            device = Device([])
            file = File(device)
            data = list(range(many))
            file.write(data)
            self.assertEqual(data, list(range(many)))
            data[0] = data[-1] = 77
            data.append(77)
            file.flush()
            self.assertEqual(device.content(), list(range(many)))

    def test_told_rows(self):
        device = Device([1, 2, 3, 10, 5, 6, 7, 8, 9, 4])
        file = File(device, room=4)
        for call, expected in (
            (lambda: file.peek(4), [1, 2, 3, 10]), (lambda: file.read(1), [1]), (lambda: file.read_some(1), [2]),
            (file.readline, [3, 10]), (lambda: file.peek(2), [5, 6]), (file.read, [5, 6, 7, 8, 9, 4]),
        ):
            answer = call()
            self.assertEqual(answer, expected)
            answer.append(77)
            answer[0] = 77
        for call in (file.read, file.peek, file.readline, lambda: file.read_some(3), lambda: file.read(0), file.lost):
            answer = call()
            self.assertEqual(answer, [])
            answer.append(77)
        self.assertEqual(file.read(), [])
        self.assertEqual(device.content(), [1, 2, 3, 10, 5, 6, 7, 8, 9, 4])

    def test_waiting_and_lost(self):
        file = File(Device([], plan=[0]))
        file.write([1, 2])
        file.waiting().append(77)
        self.assertEqual(file.waiting(), [1, 2])
        outcome(file.close)
        file.lost().append(77)
        self.assertEqual(file.lost(), [1, 2])


if __name__ == "__main__":
    unittest.main()
