"""Points 4 and 29 to 32: long rows of calls of a text, held against the plain row read sign by sign."""

import itertools
import random
import unittest

from helper import CODES, WAYS, WRONGS, TextWatch, mixed_row, model_items, model_line, outcome, refused, told
from sipstack.device import Device
from sipstack.files import File
from sipstack.stretch import Stretch
from sipstack.texts import Text

SIGNS = {
    "plain": (10, 10, 13, 65, 66, 255), "steps": (10, 10, 13, 65, 233, 8364, 70000), "wide": (10, 10, 13, 65, 2570, 65279),
    "turn": (10, 10, 13, 65, 138, 141, 16383),
}


def any_plan(chance, length, mood):
    """Numbers that let little through, stall or fail, as the mood has it."""
    if mood == "little":
        return [chance.choice((1, 1, 2, 3, 5, 400)) for _ in range(length)]
    if mood == "stalls":
        return [chance.choice((0, 0, 1, 1, 2, 3, 400)) for _ in range(length)]
    return [chance.choice((0, -5, 1, 1, 2, 3, 400)) for _ in range(length)]


def one_step(chance, watch, code, grows):
    count = chance.choice((None, 0, 1, 1, 1, 2, 2, 3, 5, 9, -1))
    action = chance.randrange(20)
    if action < 4:
        watch.reading("read", count)
    elif action < 7:
        watch.reading("peek", count)
        if chance.random() < 0.7:
            watch.reading("read", chance.choice((1, 1, 2, 3)))
    elif action < 11:
        watch.reading("readline", count)
    elif action < 13:
        watch.write([chance.choice(SIGNS[code]) for _ in range(chance.choice((0, 1, 1, 2, 3, 8)))])
    elif action == 13:
        watch.tell()
    elif action < 16:
        watch.go(chance.randrange(len(watch.cookies)))
    elif action == 16:
        watch.go_end()
    elif action == 17:
        if chance.random() < 0.4:
            watch.cut()
    elif action == 18:
        watch.flush()
    elif grows:
        watch.grow(chance.choice(([], [10], [65], [13, 10], mixed_row(chance, code, 5))))


class LongRows(unittest.TestCase):
    def run_rows(self, mood, rounds, grows):
        chance = random.Random(f"{mood} {grows}")
        for code, ends, wrong in itertools.product(CODES, WAYS, WRONGS):
            for _ in range(rounds):
                row = mixed_row(chance, code, chance.choice((0, 1, 2, 3, 12, 30)))
                room = chance.choice((1, 2, 3, 8, 64))
                plan = any_plan(chance, chance.choice((30, 100)), mood)
                watch = TextWatch(self, row, plan=plan, room=room, code=code, ends=ends, wrong=wrong)
                for _ in range(60):
                    one_step(chance, watch, code, grows)

    def test_a_device_that_gives_and_takes_little(self):
        self.run_rows("little", 8, False)

    def test_through_stalls(self):
        self.run_rows("stalls", 10, False)

    def test_through_stalls_and_faults(self):
        self.run_rows("faults", 10, False)

    def test_a_device_that_grows(self):
        self.run_rows("little", 6, True)
        self.run_rows("stalls", 6, True)
        self.run_rows("faults", 6, True)


def signs_of(items):
    return [sign for sign, _, _ in items]


class WithoutSeeking(unittest.TestCase):
    def test_reading_through_stalls_and_faults_and_detaching_anywhere(self):
        chance = random.Random(33)
        for code, ends, wrong in itertools.product(CODES, WAYS, WRONGS):
            for _ in range(12):
                row = mixed_row(chance, code, chance.choice((0, 1, 3, 12, 30)))
                device = Device(row, plan=any_plan(chance, 40, "faults"), seeks=False)
                file = File(device, room=chance.choice((1, 2, 8)), writes=False)
                text = Text(file, code=code, ends=ends, wrong=wrong)
                place, state = self.read_some_of(chance, text, row, (code, ends, wrong))
                there, rest = text.detach()
                self.assertEqual(there, file)
                while (came := outcome(file.read)) != told([]):
                    rest += came[1] if came[0] == "told" and came[1] else []
                self.assertEqual(rest, row[place:])

    def read_some_of(self, chance, text, row, ways):
        place, state = 0, 0
        for _ in range(chance.randint(0, 30)):
            word = chance.choice(("read", "readline", "peek"))
            count = chance.choice((None, 1, 2, 5))
            items, bad = model_items(row, place, state, *ways)
            due = model_line(items, ways[1], count) if word == "readline" else items[:count]
            answer = outcome(getattr(text, word), count)
            if answer[0] == "refused":
                faulty = refused("Fault", number=5, taken=0)
                self.assertIn(answer, (faulty, refused("BadCode", at=bad)) if not due and bad is not None else (faulty,))
                continue
            there = answer[1] or []
            self.assertEqual(there, signs_of(due)[:len(there)])
            if there and word != "peek":
                _, place, state = due[len(there) - 1]
        return place, state


class UponAStretch(unittest.TestCase):
    def test_a_text_upon_a_file_upon_a_stretch(self):
        chance = random.Random(34)
        for code, ends, wrong in itertools.product(CODES, WAYS, WRONGS):
            for _ in range(4):
                row = mixed_row(chance, code, 30)
                device = Device([7] * 5 + row + [8] * 9, plan=any_plan(chance, 60, "faults"))
                ground = File(device, room=chance.choice((1, 4)))
                text = Text(File(Stretch(ground, 5, 30), room=chance.choice((1, 3))), code=code, ends=ends, wrong=wrong)
                self.write_and_read(chance, text, row, (code, ends, wrong))
                while outcome(text.flush) != told(None) or outcome(ground.flush) != told(None):
                    pass
                content = device.content()
                self.assertEqual((content[:5], content[35:]), ([7] * 5, [8] * 9))

    def write_and_read(self, chance, text, row, ways):
        while outcome(text.go_end) != told(None):
            pass
        while outcome(text.go) != told(None):
            pass
        items, bad = model_items(row, 0, 0, *ways)
        told_signs = []
        for _ in range(300):
            answer = outcome(text.read, chance.choice((1, 2, None)))
            if answer == told([]) or answer[1] == "BadCode":
                break
            told_signs += (answer[1] if answer[0] == "told" else None) or []
        self.assertEqual(told_signs, signs_of(items))
        self.assertEqual(answer, told([]) if bad is None else refused("BadCode", at=bad))


if __name__ == "__main__":
    unittest.main()
