"""Points 37 and 38: books of lines."""

import itertools
import random
import unittest

from helper import (
    CODES, FAULT_7, STALLED, WAYS, WRONGS, TextWatch, asks_of, mixed_row, model_lines, outcome, refused, told, words_of,
)
from sipstack.device import Device
from sipstack.files import File
from sipstack.linebook import LineBook
from sipstack.stretch import Stretch
from sipstack.texts import Text

SIGNS = {"plain": (10, 13, 65), "steps": (10, 13, 65, 233), "wide": (10, 13, 65, 2570), "turn": (10, 13, 65, 138, 141)}


def book_of(content, *, plan=(), room=8, **ways):
    device = Device(content, plan=plan)
    text = Text(File(device, room=room), **ways)
    return device, text, LineBook(text)


class Making(unittest.TestCase):
    def test_refusals_in_their_order(self):
        text = Text(File(Device([1], seeks=False), reads=False))
        self.assertEqual(outcome(LineBook, text), refused("NoReads"))
        text.close()
        self.assertEqual(outcome(LineBook, text), refused("Closed"))
        self.assertEqual(outcome(LineBook, Text(File(Device([1]), reads=False))), refused("NoReads"))
        self.assertEqual(outcome(LineBook, Text(File(Device([1], seeks=False), writes=False))), refused("NoSeek"))

    def test_it_asks_nothing(self):
        device = Device([1], plan=[-1])
        text = Text(File(device))
        text.write([65])
        LineBook(text)
        self.assertEqual(device.log(), [])

    def test_a_closed_text(self):
        device, text, book = book_of([65, 10])
        text.close()
        for word, handed in (("line", (0,)), ("line", (-1,)), ("lines", ())):
            self.assertEqual(asks_of(device, getattr(book, word), *handed), (refused("Closed"), []))

    def test_upon_a_file_that_does_not_write(self):
        book = LineBook(Text(File(Device([65, 10, 66]), writes=False)))
        self.assertEqual((book.lines(), book.line(1)), (2, [66]))


class Lines(unittest.TestCase):
    def test_each_way_and_any_order(self):
        chance = random.Random(37)
        for code, ends, wrong in itertools.product(CODES, WAYS, WRONGS):
            for length in (0, 1, 2, 5, 12, 30, 30):
                row = mixed_row(chance, code, length)
                lines, bad = model_lines(row, code, ends, wrong)
                device, text, book = book_of(row, room=chance.choice((1, 3, 8)), code=code, ends=ends, wrong=wrong)
                numbers = list(range(-2, len(lines) + 3))
                chance.shuffle(numbers)
                for k in numbers:
                    due = told(lines[k]) if 0 <= k < len(lines) else refused("NoLine", at=k)
                    if k >= len(lines) and bad is not None:
                        due = refused("BadCode", at=bad)
                    self.assertEqual(outcome(book.line, k), due, (code, ends, wrong, row, k))
                due = told(len(lines)) if bad is None else refused("BadCode", at=bad)
                self.assertEqual(outcome(book.lines), due, (code, ends, wrong, row))

    def test_rows_with_few_lines(self):
        for row, many in (([], 0), ([65], 1), ([10], 1), ([65, 10], 1), ([10, 10], 2), ([65, 10, 66], 2), ([13], 1)):
            device, text, book = book_of(row)
            self.assertEqual(book.lines(), many)
            self.assertEqual(outcome(book.line, many), refused("NoLine", at=many))
        device, text, book = book_of([254, 255], code="wide")
        self.assertEqual((book.lines(), outcome(book.line, 0)), (0, refused("NoLine", at=0)))

    def test_below_nought_comes_ahead_of_all_but_closed(self):
        device, text, book = book_of([255], plan=[-7])
        self.assertEqual(asks_of(device, book.line, -1), (refused("NoLine", at=-1), []))

    def test_a_wrong_byte_behind_a_line_end(self):
        device, text, book = book_of([65, 13, 255, 10, 66])
        self.assertEqual(book.line(0), [65, 10])
        for k in (1, 2, 100):
            self.assertEqual(outcome(book.line, k), refused("BadCode", at=2))
        self.assertEqual(outcome(book.lines), refused("BadCode", at=2))

    def test_a_great_number(self):
        device, text, book = book_of([65, 10])
        self.assertEqual(outcome(book.line, 10 ** 9), refused("NoLine", at=10 ** 9))


class TheText(unittest.TestCase):
    def test_it_stands_where_it_stood(self):
        device, text, book = book_of([65, 10, 195, 169, 13, 10, 66])
        text.read(3)
        place = text.tell()
        for call in (lambda: book.line(0), book.lines, lambda: book.line(9), lambda: book.line(-1)):
            outcome(call)
            self.assertEqual(text.tell(), place)
        self.assertEqual(text.read(), [10, 66])

    def test_what_waits_is_handed_on_first(self):
        device, text, book = book_of([65, 10, 66], plan=[0, -7])
        text.write([67])
        self.assertEqual(outcome(book.line, 0), STALLED)
        self.assertEqual(outcome(book.lines), FAULT_7)
        self.assertEqual((text.waiting(), text.tell()), ([67], (1, 0)))
        self.assertEqual(book.line(0), [67, 10])
        self.assertEqual((text.waiting(), text.tell(), device.content()), ([], (1, 0), [67, 10, 66]))

    def test_writes_and_cuts_make_it_forget(self):
        device, text, book = book_of([65, 10, 66, 10, 67])
        self.assertEqual((book.lines(), book.line(1)), (3, [66, 10]))
        text.read(1)
        text.write([68])
        self.assertEqual((book.lines(), book.line(0), book.line(1)), (2, [65, 68, 66, 10], [67]))
        text.cut()
        self.assertEqual((book.lines(), book.line(0)), (1, [65, 68]))
        self.assertEqual(outcome(book.line, 1), refused("NoLine", at=1))
        text.write([10, 10])
        self.assertEqual((book.lines(), book.line(1)), (2, [10]))

    def test_told_lists_are_the_askers_own(self):
        device, text, book = book_of([65, 10, 66])
        for _ in range(2):
            line = book.line(0)
            self.assertEqual(line, [65, 10])
            line.clear()

    def test_a_line_once_found_is_read_alone(self):
        row = [65] * 20 + [10] + [66] * 30 + [10] + [67] * 9 + [10] + [68] * 5
        for room in (1, 8, 64):
            device, text, book = book_of(row, room=room)
            self.assertEqual(book.lines(), 4)
            for k, begin in ((2, 52), (0, 0), (1, 21), (3, 62), (2, 52)):
                answer, asks = asks_of(device, book.line, k)
                twin_device, twin, _ = book_of(row, room=room)
                twin.go((begin, 0))
                line, twin_asks = asks_of(twin_device, twin.readline)
                self.assertEqual(answer, line)
                self.assertEqual([ask for ask in asks if ask[0] != "go"], [ask for ask in twin_asks if ask[0] != "go"])
                self.assertLessEqual(words_of(asks).count("go"), 1)

    def test_behind_a_change_it_keeps_what_it_finds_anew(self):
        row = [65] * 20 + [10] + [66] * 20 + [10] + [67]
        device, text, book = book_of(row)
        text.write([68])
        self.assertEqual(book.lines(), 3)
        answer, asks = asks_of(device, book.line, 2)
        self.assertEqual((answer, [place for word, place, _, _ in asks if word == "take"][:1]), (told([67]), [42]))

    def test_asked_again_it_is_told(self):
        row = [65] * 6 + [10] + [66] * 6 + [13, 10, 67]
        for plan in ([1, 0] * 60, [2, -7, 0] * 40, [0] * 9):
            for k, due in ((1, [66] * 6 + [10]), (2, [67])):
                device, text, book = book_of(row, plan=plan, room=2)
                text.read(2)
                text.write([65])
                tries = 0
                while (answer := outcome(book.line, k)) != told(due):
                    self.assertIn(answer, (STALLED, FAULT_7))
                    self.assertEqual(words_of(device.log()[-1:])[0] != "cut", True)
                    tries += 1
                    self.assertLess(tries, 130)
                self.assertLess(device.left(), len(plan))


class LongRows(unittest.TestCase):
    def run_rows(self, numbers, rounds):
        chance = random.Random(str(numbers))
        for code, ends, wrong in itertools.product(CODES, WAYS, WRONGS):
            for _ in range(rounds):
                row = mixed_row(chance, code, chance.choice((0, 3, 12, 30)))
                plan = [chance.choice(numbers) for _ in range(chance.choice((0, 40, 120)))]
                watch = TextWatch(self, row, plan=plan, room=chance.choice((1, 3, 8)), code=code, ends=ends, wrong=wrong)
                books = [LineBook(watch.text), LineBook(watch.text)]
                for _ in range(50):
                    self.one_step(chance, watch, books, code)

    def one_step(self, chance, watch, books, code):
        action = chance.randrange(12)
        if action < 5:
            watch.ask_book(chance.choice(books), "line", chance.randint(-1, 8))
        elif action == 5:
            watch.ask_book(chance.choice(books), "lines")
        elif action == 6:
            watch.reading(chance.choice(("read", "peek", "readline")), chance.choice((1, 2, 5)))
        elif action == 7:
            watch.write([chance.choice(SIGNS[code]) for _ in range(chance.randint(0, 3))])
        elif action == 8:
            watch.tell()
        elif action == 9:
            watch.go(chance.randrange(len(watch.cookies)))
        elif action == 10:
            watch.go_end()
        elif chance.random() < 0.2:
            watch.cut()

    def test_a_device_that_gives_little(self):
        self.run_rows((1, 2, 3, 400), 3)

    def test_through_stalls_and_faults(self):
        self.run_rows((0, -5, 1, 2, 400, 400), 6)

    def test_upon_a_text_upon_a_stretch(self):
        chance = random.Random(38)
        for code, ends, wrong in itertools.product(CODES, WAYS, WRONGS):
            row = mixed_row(chance, code, 25)
            lines, bad = model_lines(row, code, ends, wrong)
            device = Device([10] * 7 + row + [10] * 7, plan=[chance.choice((0, -5, 1, 2, 400)) for _ in range(60)])
            ground = File(device, room=2)
            book = LineBook(Text(File(Stretch(ground, 7, 25), room=3), code=code, ends=ends, wrong=wrong))
            for k in range(-1, len(lines) + 1):
                due = told(lines[k]) if 0 <= k < len(lines) else refused("NoLine", at=k)
                if k == len(lines) and bad is not None:
                    due = refused("BadCode", at=bad)
                while (answer := outcome(book.line, k)) in (STALLED, refused("Fault", number=5, taken=0)):
                    pass
                self.assertEqual(answer, due)


if __name__ == "__main__":
    unittest.main()
