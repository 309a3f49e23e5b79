"""Points 4 and 21: one device through its life, its row held against a plain row at each handing over."""

import random
import unittest

from helper import mixed_row, model_items, outcome
from sipstack.codes import write_signs
from sipstack.device import Device
from sipstack.files import File
from sipstack.items import encoded
from sipstack.journal import Journal, records_of
from sipstack.linebook import LineBook
from sipstack.pouring import pour
from sipstack.rows import laid
from sipstack.stretch import Stretch
from sipstack.texts import Text


def till_told(call, *handed):
    """What a call tells, asked again through stalls and faults."""
    for _ in range(600):
        answer = outcome(call, *handed)
        if answer[0] == "told":
            return answer[1]
        if answer[1] not in ("Stalled", "Fault", "PourFault"):
            raise AssertionError(answer)
    raise AssertionError("never told")


def write_all(file, data):
    while data:
        answer = outcome(file.write, data)
        data = data[answer[1] if answer[0] == "told" else answer[2]["taken"]:]


def read_all(reader):
    signs = []
    while (came := till_told(reader.read)) != []:
        signs += came or []
    return signs


class Life(unittest.TestCase):
    def live(self, seed):
        chance = random.Random(seed)
        plain = mixed_row(chance, "steps", 40)
        plan = [chance.choice((0, -3, 1, 2, 3, 400)) for _ in range(400)]
        device = Device(plain, plan=plan)
        for part in (self.by_a_file, self.by_a_text, self.by_a_stretch, self.by_a_book, self.by_a_pouring, self.by_a_journal):
            file = File(device, room=chance.choice((1, 3, 8)))
            till_told(file.seek, 0)
            self.assertEqual(device.content(), plain)
            plain = part(chance, file, plain)
            self.assertEqual(till_told(file.detach), (device, []))
            self.assertEqual((file.closed(), device.is_shut(), device.content()), (True, False, plain))
            self.assertEqual(outcome(file.tell)[1], "Closed")
        file = File(device)
        self.assertEqual(file.tell(), device.place())
        file.write([9])
        outcome(file.close)
        self.assertTrue(device.is_shut())
        self.assertEqual(outcome(File, device)[1], "Closed")

    def by_a_file(self, chance, file, plain):
        place = chance.randint(0, len(plain))
        till_told(file.seek, place)
        data = [chance.randrange(32, 100) for _ in range(chance.randint(0, 20))]
        write_all(file, data)
        return laid(plain, place, data)

    def by_a_text(self, chance, file, plain):
        text = Text(file, wrong="mark")
        items, _ = model_items(plain, 0, 0, "steps", "any", "mark")
        self.assertEqual(read_all(text), [sign for sign, _, _ in items])
        till_told(text.go_end)
        signs = [chance.choice((10, 65, 233)) for _ in range(6)]
        text.write(signs)
        there, rest = till_told(text.detach)
        self.assertEqual((there, rest), (file, []))
        row = plain + write_signs(signs, 0)[0]
        self.assertEqual(file.tell(), len(row))
        return row

    def by_a_stretch(self, chance, file, plain):
        first, size = chance.randint(0, 20), chance.randint(1, 20)
        upper = File(Stretch(file, first, size), room=chance.choice((1, 2, 8)))
        data = [chance.randrange(32, 100) for _ in range(size)]
        write_all(upper, data)
        self.assertEqual(till_told(upper.detach)[1], [])
        return laid(plain, first, data)

    def by_a_book(self, chance, file, plain):
        text = Text(file, code="plain")
        book = LineBook(text)
        lines = [till_told(book.line, k) for k in range(till_told(book.lines))]
        items, _ = model_items(plain, 0, 0, "plain", "any", "strict")
        self.assertEqual([sign for line in lines for sign in line], [sign for sign, _, _ in items])
        text.write([66])
        till_told(text.detach)
        return laid(plain, 0, [66])

    def by_a_pouring(self, chance, file, plain):
        other = Device([7] * 30, plan=[chance.choice((0, -3, 1, 400)) for _ in range(60)])
        source = File(other)
        while till_told(pour, source, file)[1] != "end":
            pass
        return laid(plain, 0, [7] * 30)

    def by_a_journal(self, chance, file, plain):
        till_told(file.cut, 0)
        journal = till_told(Journal, file)
        records = [[chance.randrange(256) for _ in range(chance.randint(0, 5))] for _ in range(4)]
        for record in records:
            journal.add(record)
        till_told(journal.keep)
        row = [byte for record in records for byte in [len(record) + 1] + record]
        self.assertEqual(records_of(row), (records, None))
        return row

    def test_many_lives(self):
        for seed in range(120):
            with self.subTest(seed=seed):
                self.live(seed)

    def test_floors_upon_floors(self):
        chance = random.Random(4)
        device = Device([0] * 60, plan=[chance.choice((0, -3, 1, 2, 400)) for _ in range(200)])
        ground = File(device, room=4)
        middle = File(Stretch(ground, 10, 40), room=3)
        text = Text(File(Stretch(middle, 5, 20), room=2), ends="both")
        text.write([72, 233, 10, 66])
        till_told(text.flush)
        till_told(middle.flush)
        till_told(ground.flush)
        row = encoded([72, 233, 10, 66], ends="both")
        self.assertEqual(device.content(), laid([0] * 60, 15, row))
        till_told(text.go)
        self.assertEqual(till_told(LineBook(text).line, 0), [72, 233, 13, 10])
        self.assertEqual(read_all(text), [72, 233, 13, 10, 66] + [0] * (20 - len(row)))


if __name__ == "__main__":
    unittest.main()
