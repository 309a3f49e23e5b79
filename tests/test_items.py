"""Points 26 to 28: the items of a row, a whole row read, signs written."""

import itertools
import random
import unittest

from helper import CODES, WAYS, WRONGS, mixed_row, model_items, outcome, refused, told
from sipstack.codes import first_state, write_signs
from sipstack.items import decoded, encoded, read_items

STATES = {"plain": (0,), "steps": (0,), "wide": (0, 1, 2), "turn": (0, 1, 127)}


class Items(unittest.TestCase):
    def test_against_a_second_reading_from_any_place_and_state(self):
        chance = random.Random(26)
        for code, ends, wrong in itertools.product(CODES, WAYS, WRONGS):
            for length in list(range(8)) * 3 + [40]:
                row = mixed_row(chance, code, length)
                for place in {0, 1, 2, 3, length, length + 2}:
                    for state in STATES[code]:
                        with self.subTest(code=code, ends=ends, wrong=wrong, row=row, place=place, state=state):
                            items, _ = model_items(row, place, state, code, ends, wrong)
                            there = read_items(row, place, state, code=code, ends=ends, wrong=wrong)
                            self.assertEqual(there, items)

    def test_every_small_row_of_turning_bytes_and_line_ends(self):
        for length in range(5):
            for row in itertools.product((10, 13, 65, 128, 129), repeat=length):
                for ends in WAYS:
                    items, _ = model_items(list(row), 0, 0, "turn", ends, "strict")
                    self.assertEqual(read_items(list(row), 0, 0, code="turn", ends=ends), items)

    def test_the_words_that_are_left_out(self):
        self.assertEqual(read_items([65, 195, 169, 13, 10, 255, 66], 0, 0), [(65, 1, 0), (233, 3, 0), (10, 5, 0)])
        self.assertEqual(decoded([65, 195, 169, 13, 10]), [65, 233, 10])
        self.assertEqual(outcome(decoded, [65, 255]), refused("BadCode", at=1))
        self.assertEqual(encoded([233, 10]), [195, 169, 10])

    def test_a_return_at_the_end_ahead_of_a_feed_and_ahead_of_others(self):
        self.assertEqual(read_items([13], 0, 0), [(10, 1, 0)])
        self.assertEqual(read_items([13, 10, 10], 0, 0), [(10, 2, 0), (10, 3, 0)])
        self.assertEqual(read_items([13, 13, 10], 0, 0), [(10, 1, 0), (10, 3, 0)])
        self.assertEqual(read_items([13, 66], 0, 0), [(10, 1, 0), (66, 2, 0)])
        self.assertEqual(read_items([13, 255, 10], 0, 0), [(10, 1, 0)])
        self.assertEqual(read_items([13, 255, 10], 0, 0, wrong="mark"), [(10, 1, 0), (65533, 2, 0), (10, 3, 0)])
        self.assertEqual(read_items([13, 129, 128, 10], 0, 0, code="turn"), [(10, 4, 0)])
        self.assertEqual(read_items([13, 129, 10], 0, 0, code="turn"), [(10, 1, 0), (138, 3, 1)])
        self.assertEqual(read_items([13, 129], 0, 0, code="turn"), [(10, 1, 0)])
        self.assertEqual(read_items([13, 10], 1, 0), [(10, 2, 0)])
        for ends in ("kept", "feed", "return", "both"):
            self.assertEqual(read_items([13, 10], 0, 0, ends=ends), [(13, 1, 0), (10, 2, 0)])

    def test_wide_from_its_first_state(self):
        self.assertEqual(read_items([255, 254, 10, 0], 0, 0, code="wide"), [(10, 4, 1)])
        self.assertEqual(read_items([0, 13, 0, 10], 0, 0, code="wide"), [(10, 4, 2)])
        self.assertEqual(read_items([254, 255], 0, 0, code="wide"), [])
        self.assertEqual(read_items([254, 255, 7], 0, 0, code="wide", wrong="mark"), [(65533, 3, 2)])
        self.assertEqual(outcome(decoded, [254, 255, 0, 65, 7], code="wide"), refused("BadCode", at=4))

    def test_a_whole_row(self):
        chance = random.Random(28)
        for code, ends, wrong in itertools.product(CODES, WAYS, WRONGS):
            for length in (0, 1, 2, 3, 5, 30):
                row = mixed_row(chance, code, length)
                items, bad = model_items(row, 0, 0, code, ends, wrong)
                due = told([sign for sign, _, _ in items]) if bad is None else refused("BadCode", at=bad)
                self.assertEqual(outcome(decoded, row, code=code, ends=ends, wrong=wrong), due)

    def test_signs_written_and_read_back(self):
        signs = [65, 10, 0, 127, 10, 10, 66]
        for code, ends in itertools.product(CODES, WAYS):
            row = encoded(signs, code=code, ends=ends)
            feed = {"return": [13], "both": [13, 10]}.get(ends, [10])
            written = [new for sign in signs for new in (feed if sign == 10 else [sign])]
            self.assertEqual(row, write_signs(written, first_state(code), code=code)[0])
            self.assertEqual(decoded(row, code=code, ends=ends), signs if ends == "any" else written)
        self.assertEqual(encoded([], code="wide"), [])
        self.assertEqual(encoded([300, 65, 70000], code="steps"), [196, 172, 65, 240, 145, 133, 176])
        self.assertEqual(encoded([300, 301, 65], code="turn"), [130, 44, 45, 128, 65])

    def test_refusals_in_their_order(self):
        for handed in (([255], 0, 0), ([], 5, 0)):
            self.assertEqual(outcome(read_items, *handed, code="x", ends="y", wrong="z"), refused("NoCode", word="x"))
            self.assertEqual(outcome(read_items, *handed, ends="y", wrong="z"), refused("NoEnds", word="y"))
            self.assertEqual(outcome(read_items, *handed, wrong="z"), refused("NoWay", word="z"))
        self.assertEqual(outcome(decoded, [255], code="x", ends="y", wrong="z"), refused("NoCode", word="x"))
        self.assertEqual(outcome(decoded, [255], ends="y", wrong="z"), refused("NoEnds", word="y"))
        self.assertEqual(outcome(decoded, [255], wrong="z"), refused("NoWay", word="z"))
        self.assertEqual(outcome(encoded, [-1], code="x", ends="y"), refused("NoCode", word="x"))
        self.assertEqual(outcome(encoded, [-1], ends="y"), refused("NoEnds", word="y"))
        self.assertEqual(outcome(encoded, [65, -1, 2097152]), refused("NoSign", sign=-1))
        for code, sign in (("plain", 256), ("steps", 2097152), ("wide", 65536), ("turn", 16384), ("plain", True)):
            self.assertEqual(outcome(encoded, [10, sign], code=code), refused("NoSign", sign=sign))

    def test_lists_are_the_askers_own(self):
        row, signs = [65, 13, 10], [65, 10]
        read_items(row, 0, 0).append(1)
        decoded(row).append(1)
        encoded(signs, ends="both").append(1)
        self.assertEqual((row, signs), ([65, 13, 10], [65, 10]))
        self.assertEqual(decoded(row), [65, 10])


if __name__ == "__main__":
    unittest.main()
