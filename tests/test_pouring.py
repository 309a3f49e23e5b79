"""Points 35 and 36: pouring from file to file and from text to text, and what is busy."""

import itertools
import random
import unittest

from helper import CODES, WAYS, mixed_row, model_items, outcome, refused, told
from sipstack.device import Device
from sipstack.files import File
from sipstack.pipe import Pipe
from sipstack.pouring import pour
from sipstack.rows import laid
from sipstack.stretch import Stretch
from sipstack.texts import Text


def some_plan(chance, words):
    return [chance.choice(words) for _ in range(chance.choice((0, 20, 60)))]


class Refusals(unittest.TestCase):
    def test_in_their_order(self):
        file, text = File(Device([1])), Text(File(Device([1])))
        for room in (0, 65, -1, True):
            self.assertEqual(outcome(pour, file, text, room=room, most=-1), refused("BadRoom"))
        self.assertEqual(outcome(pour, file, text, most=-1), refused("BadCount"))
        for source, target in ((file, text), (text, file)):
            self.assertEqual(outcome(pour, source, target), refused("NoWay", word="pour"))
        self.assertEqual(outcome(pour, file, text, most=0), refused("NoWay", word="pour"))
        for both in (file, text):
            self.assertEqual(outcome(pour, both, both, most=0), refused("Same"))
            self.assertEqual(outcome(pour, both, both, most=-1), refused("BadCount"))
            self.assertFalse(both.busy())
        self.assertEqual(file.raw.log(), [])

    def test_the_rooms_that_may_be(self):
        for room in (1, 8, 64):
            self.assertEqual(pour(File(Device([7] * 70)), File(Device([])), room=room), (70, "end"))

    def test_files_over_equal_devices_are_not_the_same(self):
        self.assertEqual(pour(File(Device([7])), File(Device([7]))), (1, "end"))

    def test_other_refusals_go_on_as_they_are(self):
        reader, writer = Device([1, 2, 3]), Device([])
        for kind in (File, lambda raw, **named: Text(File(raw, **named), code="plain")):
            source, target = kind(reader, reads=False), kind(writer)
            self.assertEqual(outcome(pour, source, target), refused("NoReads"))
            source, target = kind(reader, writes=False), kind(writer, writes=False)
            self.assertEqual(outcome(pour, source, target), refused("NoWrites"))
            self.assertEqual((source.busy(), target.busy()), (False, False))
            self.assertEqual(source.read(1), [1])
            target.detach()
            self.assertEqual(outcome(pour, kind(Device([1])), target), refused("Closed"))
            self.assertEqual(outcome(pour, target, kind(Device([1]))), refused("Closed"))
            self.assertEqual(pour(target, kind(Device([1])), most=0), (0, "most"))
            self.assertFalse(target.busy())
            reader, writer = Device([1, 2, 3]), Device([])

    def test_too_long(self):
        source, target = File(Device([1] * 30)), File(Device([0] * 3990))
        target.seek(3980)
        self.assertEqual(outcome(pour, source, target, room=8), refused("TooLong", length=4004))
        self.assertEqual((source.tell(), target.tell(), source.busy(), target.busy()), (16, 3996, False, False))
        self.assertEqual(source.read(2), [1, 1])

    def test_no_sign_and_bad_code(self):
        source = Text(File(Device([65, 66, 196, 172, 67])))
        target = Text(File(Device([])), code="plain")
        self.assertEqual(outcome(pour, source, target, room=2), refused("NoSign", sign=300))
        self.assertEqual((target.waiting(), source.read()), ([65, 66], [300, 67]))
        source = Text(File(Device([65, 66, 67, 255, 68])))
        target = Text(File(Device([])))
        self.assertEqual(outcome(pour, source, target, room=2), refused("BadCode", at=3))
        self.assertEqual((target.waiting(), source.busy(), target.busy()), ([65, 66, 67], False, False))
        self.assertEqual(outcome(source.read), refused("BadCode", at=3))


class Words(unittest.TestCase):
    def test_most_end_and_stalled(self):
        source, target = File(Device([1, 2, 3, 4, 5])), File(Device([]))
        self.assertEqual(pour(source, target, room=2, most=3), (3, "most"))
        self.assertEqual(pour(source, target, most=0), (0, "most"))
        self.assertEqual(pour(source, target, most=2), (2, "most"))
        self.assertEqual(pour(source, target, most=2), (0, "end"))
        self.assertEqual(target.waiting(), [1, 2, 3, 4, 5])
        self.assertEqual(target.raw.log(), [])
        source, target = File(Device([1, 2, 3], plan=[2, 0])), File(Device([]))
        self.assertEqual(pour(source, target), (2, "stalled"))
        self.assertEqual(pour(source, target), (1, "end"))

    def test_a_limit_of_nought_calls_neither(self):
        source, target = File(Device([1], plan=[-1])), File(Device([], plan=[-1]))
        self.assertEqual(pour(source, target, most=0), (0, "most"))
        self.assertEqual((source.raw.log(), target.raw.log()), ([], []))

    def test_no_more_is_peeked_than_what_is_left(self):
        pipe = Pipe(room=9)
        pipe.into().put([1, 2, 3, 4, 5])
        target = File(Device([]), room=1)
        source = File(pipe.out(), room=1, writes=False)
        self.assertEqual(pour(source, target, room=8, most=2), (2, "most"))
        self.assertEqual([many for _, _, many, _ in pipe.out().log()], [2])

    def test_the_sources_own_waiting_bytes_stall(self):
        source, target = File(Device([1, 2, 3], plan=[0])), File(Device([]))
        source.write([9])
        self.assertEqual(pour(source, target), (0, "stalled"))
        self.assertEqual(pour(source, target), (2, "end"))
        self.assertEqual((source.raw.content(), target.waiting()), ([9, 2, 3], [2, 3]))

    def test_the_target_stalls(self):
        source, target = File(Device([1, 2, 3, 4, 5, 6])), File(Device([], plan=[1, 0]), room=2)
        self.assertEqual(pour(source, target, room=4), (3, "stalled"))
        self.assertEqual(source.tell(), 3)
        self.assertEqual(pour(source, target, room=4), (3, "end"))
        target.flush()
        self.assertEqual(target.raw.content(), [1, 2, 3, 4, 5, 6])

    def test_faults_of_either_side(self):
        source, target = File(Device([1, 2, 3, 4], plan=[2, -7])), File(Device([]))
        self.assertEqual(outcome(pour, source, target), refused("PourFault", number=7, count=2, side="source"))
        self.assertEqual((source.busy(), target.busy(), source.tell(), target.waiting()), (False, False, 2, [1, 2]))
        self.assertEqual(pour(source, target), (2, "end"))
        source, target = File(Device([1, 2, 3, 4, 5, 6])), File(Device([], plan=[1, -9]), room=2)
        answer = outcome(pour, source, target, room=3)
        self.assertEqual(answer, refused("PourFault", number=9, count=source.tell(), side="target"))
        self.assertEqual((source.busy(), target.busy()), (False, False))
        self.assertEqual(target.raw.content() + target.waiting(), [1, 2, 3, 4, 5, 6][:source.tell()])
        source = Text(File(Device([65, 66], plan=[1, -7]), room=1))
        target = Text(File(Device([])))
        self.assertEqual(outcome(pour, source, target, room=1), refused("PourFault", number=7, count=1, side="source"))


class EachOnce(unittest.TestCase):
    def test_from_file_to_file_through_stalls_and_faults(self):
        for seed in range(300):
            chance = random.Random(seed)
            row = [chance.randrange(256) for _ in range(chance.randint(0, 60))]
            source = File(Device(row, plan=some_plan(chance, (0, -3, 1, 2, 400))), room=chance.choice((1, 3, 8)))
            target = File(Device([9] * 10, plan=some_plan(chance, (0, -4, 1, 2, 400))), room=chance.choice((1, 3, 8)))
            total = self.pour_all(chance, source, target)
            self.assertEqual(total, len(row))
            while outcome(target.flush) != told(None):
                pass
            self.assertEqual(target.raw.content(), laid([9] * 10, 0, row))

    def pour_all(self, chance, source, target, texts=False):
        total = 0
        for _ in range(400):
            most = chance.choice((None, None, 0, 1, 5, 20))
            before = None if texts else (source.tell(), target.tell())
            answer = outcome(pour, source, target, room=chance.choice((1, 2, 8, 64)), most=most)
            self.assertEqual((source.busy(), target.busy()), (False, False))
            if answer[0] == "refused":
                self.assertEqual(answer[1], "PourFault")
                self.assertEqual(answer[2]["number"], {"source": 3, "target": 4}[answer[2]["side"]])
                count, word = answer[2]["count"], "fault"
            else:
                count, word = answer[1]
                self.assertEqual(word == "most", count == most)
            total += count
            if before:
                self.assertEqual((source.tell() - before[0], target.tell() - before[1]), (count, count))
            if word == "end":
                return total
        self.fail("no end")

    def test_from_text_to_text_through_stalls_and_faults(self):
        for seed, (code, ends, other_ends) in enumerate(itertools.product(CODES, WAYS, ("any", "both"))):
            chance = random.Random(seed)
            for _ in range(4):
                row = mixed_row(chance, code, chance.randint(0, 40))
                items, _ = model_items(row, 0, 0, code, ends, "mark")
                signs = [sign for sign, _, _ in items]
                device = Device(row, plan=some_plan(chance, (0, -3, 1, 2, 400)))
                source = Text(File(device, room=chance.choice((1, 3, 8))), code=code, ends=ends, wrong="mark")
                target = Text(File(Device([])), code="steps", ends=other_ends)
                self.assertEqual(self.pour_all(chance, source, target, texts=True), len(signs))
                twin = Text(File(Device([])), code="steps", ends=other_ends)
                for at in range(0, len(signs), 90):
                    twin.write(signs[at:at + 90])
                self.assertEqual(target.waiting(), twin.waiting())

    def test_through_pipes(self):
        pipe = Pipe(room=3)
        source, into = File(Device(list(range(50)))), File(pipe.into(), room=2, reads=False)
        out, target = File(pipe.out(), room=4, writes=False), File(Device([]), room=5)
        words = []
        while not words or words[-1] != "end":
            words.append(pour(source, into)[1])
            outcome(into.flush)
            pour(out, target)
        while outcome(into.close) == refused("Stalled", taken=0):
            self.fail("a close is refused where something is lost")
        self.assertEqual(pour(out, target)[1], "end")
        target.flush()
        self.assertEqual(target.raw.content(), list(range(50)))
        self.assertIn("stalled", words)

    def test_to_a_stretch_that_is_too_short(self):
        source = File(Device([1, 2, 3, 4, 5]))
        lower = File(Device([]))
        target = File(Stretch(lower, 2, 3), room=1)
        answer = outcome(pour, source, target, room=2)
        self.assertEqual(answer[:2], ("refused", "PourFault"))
        self.assertEqual((answer[2]["number"], answer[2]["side"]), (98, "target"))
        self.assertEqual(answer[2]["count"], source.tell())


class Busy(unittest.TestCase):
    def test_both_are_busy_amid_a_pouring(self):
        seen = []

        class Asking(Device):
            def take(self, many):
                seen.append((source.busy(), target.busy()))
                return Device.take(self, many)

        source, target = File(Asking([1, 2])), File(Device([]))
        pour(source, target)
        self.assertEqual(set(seen), {(True, True)})
        source, target = Text(File(Asking([65]))), Text(File(Device([])))
        pour(source, target)
        self.assertEqual(set(seen), {(True, True)})
        self.assertEqual((source.busy(), target.busy()), (False, False))


if __name__ == "__main__":
    unittest.main()
