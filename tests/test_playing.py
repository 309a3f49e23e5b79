"""Point 41: plays, and what they note."""

import unittest

from sipstack.device import Device
from sipstack.files import File
from sipstack.playing import play


def played(content, calls, *, plan=(), room=8, seeks=True, reads=True, writes=True):
    device = Device(content, plan=plan, seeks=seeks)
    return play(File(device, room=room, reads=reads, writes=writes), device, calls)


class Plays(unittest.TestCase):
    def test_each_call_that_is_told(self):
        calls = [
            ("read", 2), ("read_some", 1), ("peek", 1), ("readline", None), ("readline", 1), ("read", None), ("tell",),
            ("write", [7, 8]), ("seek", 1, "head"), ("seek", 1, "here"), ("seek", 0, "tail"), ("cut", 3), ("cut", None),
            ("grow", [5]), ("flush",), ("close",), ("close",),
        ]
        told = [
            [1, 2], [3], [10], [10], [4], [10, 6], 7, 2, 1, 2, 9, None, None, None, None, None, None,
        ]
        history = played([1, 2, 3, 10, 4, 10, 6], calls)
        self.assertEqual([call for call, _, _ in history], calls)
        self.assertEqual([answer for _, answer, _ in history], [("told", what) for what in told])

    def test_the_asks_that_belong_to_each(self):
        calls = [("tell",), ("read", 1), ("read", 1), ("write", [9]), ("flush",), ("grow", [4]), ("cut", 1), ("close",)]
        history = played([1, 2, 3], calls, room=2)
        self.assertEqual([asks for _, _, asks in history], [
            [], [("take", 0, 2, [1, 2])], [], [], [("put", 2, [9], 1)], [], [("cut", 3, 1, 0)], [],
        ])

    def test_what_was_asked_ahead_of_the_play_belongs_to_none(self):
        device = Device([1, 2, 3])
        file = File(device, room=1)
        file.read(1)
        self.assertEqual(play(file, device, [("read", 1)]), [(("read", 1), ("told", [2]), [("take", 1, 1, [2])])])
        self.assertEqual(play(file, device, []), [])

    def test_refusals_with_their_values(self):
        cases = (
            (("read", -1), ("BadCount", None, 0)), (("readline", -1), ("BadCount", None, 0)),
            (("write", [1, 256]), ("NotByte", 1, 0)), (("write", [True]), ("NotByte", 0, 0)),
            (("seek", 0, "x"), ("BadStart", None, 0)), (("seek", -4, "here"), ("BadPlace", -4, 0)),
            (("seek", 4001, "head"), ("TooLong", 4001, 0)), (("cut", -1), ("BadPlace", -1, 0)),
            (("cut", 5000), ("TooLong", 5000, 0)), (("grow", [0] * 3999), ("TooLong", 4001, 0)),
        )
        for call, refusal in cases:
            self.assertEqual(played([1, 2], [call, ("tell",)]), [
                (call, ("refused",) + refusal, []), (("tell",), ("told", 0), []),
            ])
        history = played([1, 2], [("seek", 3999, "head"), ("write", [1, 2])])
        self.assertEqual(history[1], (("write", [1, 2]), ("refused", "TooLong", 4001, 0), []))

    def test_stalls_and_faults(self):
        history = played([1, 2], [("read", 1), ("read", 1), ("write", [5, 6, 7]), ("write", [8]), ("flush",)],
                         plan=[0, -7, 1, 0, 0, -9], room=1)
        self.assertEqual(history, [
            (("read", 1), ("told", None), [("take", 0, 1, "stall")]),
            (("read", 1), ("refused", "Fault", 7, 0), [("take", 0, 1, "fault")]),
            (("write", [5, 6, 7]), ("refused", "Stalled", None, 2),
             [("put", 0, [5, 6, 7], 1), ("put", 1, [6, 7], "stall")]),
            (("write", [8]), ("refused", "Stalled", None, 0), [("put", 1, [6, 8], "stall")]),
            (("flush",), ("refused", "Fault", 9, 0), [("put", 1, [6], "fault")]),
        ])
        history = played([], [("write", [5, 6, 7])], plan=[1, -7], room=1)
        self.assertEqual(history[0][1][:3], ("refused", "Fault", 7))
        self.assertEqual(history[0][1][3], 2)

    def test_other_files(self):
        closed = played([1], [("close",), ("read", 1), ("tell",), ("flush",), ("grow", [2]), ("close",)])
        refused = ("refused", "Closed", None, 0)
        told = ("told", None)
        self.assertEqual([answer for _, answer, _ in closed], [told, refused, refused, refused, told, told])
        history = played([1], [("write", [1]), ("cut", 0), ("seek", 0, "head"), ("read", 1)], seeks=False, writes=False)
        self.assertEqual([answer for _, answer, _ in history], [
            ("refused", "NoWrites", None, 0), ("refused", "NoWrites", None, 0), ("refused", "NoSeek", None, 0), ("told", [1]),
        ])
        history = played([1], [("read", 1), ("cut", 0)], seeks=False, reads=False)
        self.assertEqual([answer for _, answer, _ in history], [
            ("refused", "NoReads", None, 0), ("refused", "NoSeek", None, 0),
        ])

    def test_lists_handed_in_and_told(self):
        data, grown = [7], [9]
        calls = [("write", data), ("grow", grown), ("flush",), ("read", None)]
        device = Device([1, 2])
        history = play(File(device), device, calls)
        data.append(1)
        grown.append(1)
        calls.clear()
        self.assertEqual((history[0][0], history[1][0]), (("write", [7]), ("grow", [9])))
        history[3][1][1].append(4)
        history[2][2][0][2].append(4)
        history[3][2][0][3].append(4)
        self.assertEqual(device.log()[0], ("put", 0, [7], 1))
        self.assertEqual(device.log()[1][3], [2, 9])
        self.assertEqual((data, grown), ([7, 1], [9, 1]))


if __name__ == "__main__":
    unittest.main()
