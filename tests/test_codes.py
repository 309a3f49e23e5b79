"""Points 23 to 25: the four codes, reading one sign, writing signs."""

import itertools
import unittest

from helper import outcome, refused
from sipstack.codes import first_state, read_sign, write_signs

CODES = ("plain", "steps", "wide", "turn")
LAST_SIGNS = {"plain": 255, "steps": 2097151, "wide": 65535, "turn": 16383}
STATES = {"plain": (0,), "steps": (0,), "wide": (0, 1, 2), "turn": (0, 1, 5, 126, 127)}

# For steps the first and the last sign of each length of writing.
STEPS_WRITINGS = (
    (0, [0]), (1, [1]), (65, [65]), (127, [127]),
    (128, [194, 128]), (233, [195, 169]), (2047, [223, 191]),
    (2048, [224, 160, 128]), (55296, [237, 160, 128]), (65533, [239, 191, 189]), (65535, [239, 191, 191]),
    (65536, [240, 144, 128, 128]), (1114111, [244, 143, 191, 191]), (1114112, [244, 144, 128, 128]),
    (2097151, [247, 191, 191, 191]),
)

NO_CODES = ("", "Steps", "utf-8", "plain ", "any", "strict", "sign")


def some_signs(code):
    last = LAST_SIGNS[code]
    edges = (0, 1, 10, 13, 65, 127, 128, 129, 255, 256, 2047, 2048, 16383, 16384, 65279, 65534, 65535, 65536, 262143,
             262144, 1114111, 2097150, 2097151)
    return [sign for sign in edges if sign <= last]


class States(unittest.TestCase):
    def test_each_codes_first_state(self):
        for code in CODES:
            self.assertEqual(first_state(code), 0)

    def test_another_word(self):
        for word in NO_CODES:
            self.assertEqual(outcome(first_state, word), refused("NoCode", word=word))
            self.assertEqual(outcome(read_sign, [], 0, 0, code=word), refused("NoCode", word=word))
            self.assertEqual(outcome(write_signs, [], 0, code=word), refused("NoCode", word=word))

    def test_another_word_ahead_of_all_else(self):
        self.assertEqual(outcome(read_sign, [255], 9, 0, code="wider"), refused("NoCode", word="wider"))
        self.assertEqual(outcome(write_signs, [-1], 0, code="wider"), refused("NoCode", word="wider"))

    def test_the_code_left_out_is_steps(self):
        self.assertEqual(write_signs([233], 0), ([195, 169], 0))
        self.assertEqual(read_sign([195, 169], 0, 0), ("sign", 233, 2, 0))


class Written(unittest.TestCase):
    def test_plain(self):
        for sign in range(256):
            self.assertEqual(write_signs([sign], 0, code="plain"), ([sign], 0))

    def test_steps(self):
        for sign, writing in STEPS_WRITINGS:
            self.assertEqual(write_signs([sign], 0, code="steps"), (writing, 0))

    def test_steps_as_utf_8_has_it(self):
        for sign in itertools.chain(range(0, 55296, 97), range(57344, 1114112, 997)):
            self.assertEqual(write_signs([sign], 0, code="steps"), (list(chr(sign).encode("utf-8")), 0))

    def test_wide(self):
        for sign in some_signs("wide"):
            high, low = sign // 256, sign % 256
            self.assertEqual(write_signs([sign], 0, code="wide"), ([254, 255, high, low], 2))
            self.assertEqual(write_signs([sign], 1, code="wide"), ([low, high], 1))
            self.assertEqual(write_signs([sign], 2, code="wide"), ([high, low], 2))

    def test_wide_has_one_mark(self):
        self.assertEqual(write_signs([65, 66], 0, code="wide"), ([254, 255, 0, 65, 0, 66], 2))
        self.assertEqual(write_signs([65, 65279], 1, code="wide"), ([65, 0, 255, 254], 1))

    def test_turn(self):
        for sign in some_signs("turn"):
            page, byte = sign // 128, sign % 128
            for state in STATES["turn"]:
                writing = [byte] if page == state else [128 + page, byte]
                self.assertEqual(write_signs([sign], state, code="turn"), (writing, page))

    def test_turn_one_behind_another(self):
        signs = [1, 2, 128, 129, 16383, 16256, 3]
        row = [1, 2, 129, 0, 1, 255, 127, 0, 128, 3]
        self.assertEqual(write_signs(signs, 0, code="turn"), (row, 0))
        self.assertEqual(write_signs([1], 1, code="turn"), ([128, 1], 0))

    def test_no_signs(self):
        for code in CODES:
            for state in STATES[code]:
                self.assertEqual(write_signs([], state, code=code), ([], state))

    def test_signs_that_the_code_has_not(self):
        for code, last in LAST_SIGNS.items():
            self.assertEqual(outcome(write_signs, [last], 0, code=code)[0], "told")
            for state in STATES[code]:
                for sign in (last + 1, -1, -last, 10 ** 9, -10 ** 9):
                    for signs in ([sign], [0, sign], [last, sign, -5], [sign, 0]):
                        answer = outcome(write_signs, signs, state, code=code)
                        self.assertEqual(answer, refused("NoSign", sign=sign))

    def test_truths_are_no_signs(self):
        for code in CODES:
            self.assertEqual(outcome(write_signs, [1, True], 0, code=code), refused("NoSign", sign=True))

    def test_the_kinds_of_what_is_told(self):
        for code in CODES:
            answer = write_signs([65], 0, code=code)
            self.assertIs(type(answer), tuple)
            self.assertIs(type(answer[0]), list)


class ReadSigns(unittest.TestCase):
    def test_what_was_written_is_read_back(self):
        for code in CODES:
            for state in STATES[code]:
                for signs in [[sign] for sign in some_signs(code)] + [some_signs(code), some_signs(code)[::-1]]:
                    row, end_state = write_signs(signs, state, code=code)
                    self.assertEqual(self.signs_of([7] + row, 1, state, code), (signs, len(row) + 1, end_state))

    def signs_of(self, row, place, state, code):
        signs = []
        word, sign, next_place, next_state = read_sign(row, place, state, code=code)
        while word == "sign":
            signs.append(sign)
            place, state = next_place, next_state
            word, sign, next_place, next_state = read_sign(row, place, state, code=code)
        self.assertEqual((word, sign, next_place, next_state), ("end", 0, place, state))
        return signs, place, state

    def test_plain(self):
        for byte in range(256):
            self.assertEqual(read_sign([9, byte, 9], 1, 0, code="plain"), ("sign", byte, 2, 0))

    def test_steps(self):
        for sign, writing in STEPS_WRITINGS:
            self.assertEqual(read_sign([9] + writing, 1, 0, code="steps"), ("sign", sign, 1 + len(writing), 0))
            self.assertEqual(read_sign(writing + [128], 0, 0, code="steps"), ("sign", sign, len(writing), 0))

    def test_wide(self):
        self.assertEqual(read_sign([1, 2, 3], 0, 1, code="wide"), ("sign", 513, 2, 1))
        self.assertEqual(read_sign([1, 2, 3], 0, 2, code="wide"), ("sign", 258, 2, 2))
        self.assertEqual(read_sign([1, 2, 3], 1, 2, code="wide"), ("sign", 515, 3, 2))

    def test_wide_in_its_first_state(self):
        self.assertEqual(read_sign([254, 255, 1, 2], 0, 0, code="wide"), ("sign", 258, 4, 2))
        self.assertEqual(read_sign([255, 254, 1, 2], 0, 0, code="wide"), ("sign", 513, 4, 1))
        self.assertEqual(read_sign([1, 2, 3, 4], 0, 0, code="wide"), ("sign", 258, 2, 2))
        self.assertEqual(read_sign([254, 254], 0, 0, code="wide"), ("sign", 65278, 2, 2))
        self.assertEqual(read_sign([255, 255], 0, 0, code="wide"), ("sign", 65535, 2, 2))
        self.assertEqual(read_sign([9, 255, 254, 1, 2], 1, 0, code="wide"), ("sign", 513, 5, 1))

    def test_a_mark_is_one_only_once_and_only_in_the_first_state(self):
        self.assertEqual(read_sign([254, 255, 254, 255, 0, 1], 0, 0, code="wide"), ("sign", 65279, 4, 2))
        self.assertEqual(read_sign([254, 255, 255, 254, 0, 1], 0, 0, code="wide"), ("sign", 65534, 4, 2))
        self.assertEqual(read_sign([255, 254, 255, 254, 0, 1], 0, 0, code="wide"), ("sign", 65279, 4, 1))
        self.assertEqual(read_sign([255, 254, 254, 255, 0, 1], 0, 0, code="wide"), ("sign", 65534, 4, 1))
        self.assertEqual(read_sign([254, 255, 0, 1], 0, 1, code="wide"), ("sign", 65534, 2, 1))
        self.assertEqual(read_sign([255, 254, 0, 1], 0, 2, code="wide"), ("sign", 65534, 2, 2))

    def test_turn(self):
        self.assertEqual(read_sign([5], 0, 0, code="turn"), ("sign", 5, 1, 0))
        self.assertEqual(read_sign([127], 0, 127, code="turn"), ("sign", 16383, 1, 127))
        self.assertEqual(read_sign([129, 5], 0, 0, code="turn"), ("sign", 133, 2, 1))
        self.assertEqual(read_sign([128, 5], 0, 9, code="turn"), ("sign", 5, 2, 0))
        self.assertEqual(read_sign([255, 0], 0, 0, code="turn"), ("sign", 16256, 2, 127))

    def test_several_turning_bytes(self):
        self.assertEqual(read_sign([129, 200, 130, 5, 131], 0, 7, code="turn"), ("sign", 261, 4, 2))
        self.assertEqual(read_sign([9, 255, 255, 128, 0], 1, 7, code="turn"), ("sign", 0, 5, 0))


class Ends(unittest.TestCase):
    def test_at_the_end_and_behind_it(self):
        for code in CODES:
            for state in STATES[code]:
                for row in ([], [1, 2]):
                    for place in (len(row), len(row) + 1, len(row) + 50):
                        answer = read_sign(row, place, state, code=code)
                        self.assertEqual(answer, ("end", 0, place, state))

    def test_a_mark_behind_which_nothing_comes(self):
        for mark in ([254, 255], [255, 254]):
            self.assertEqual(read_sign(mark, 0, 0, code="wide"), ("end", 0, 0, 0))
            self.assertEqual(read_sign([7] + mark, 1, 0, code="wide"), ("end", 0, 1, 0))

    def test_turning_bytes_behind_which_nothing_comes(self):
        for row in ([129], [129, 130], [255, 128, 131]):
            self.assertEqual(read_sign(row, 0, 5, code="turn"), ("end", 0, 0, 5))
            self.assertEqual(read_sign([7] + row, 1, 0, code="turn"), ("end", 0, 1, 0))


class Wrong(unittest.TestCase):
    def wrong(self, row, place=0, state=0, code="steps", end_state=None):
        expected = ("wrong", 0, place + 1, state if end_state is None else end_state)
        with self.subTest(row=row, place=place, state=state, code=code):
            self.assertEqual(read_sign(row, place, state, code=code), expected)

    def test_a_byte_that_leads_nothing(self):
        for byte in itertools.chain(range(128, 192), range(248, 256)):
            self.wrong([byte])
            self.wrong([byte, 128, 128, 128])
            self.wrong([65, byte, 65], place=1)

    def test_a_following_byte_is_lacking_at_the_rows_end(self):
        for _, writing in STEPS_WRITINGS:
            for many in range(1, len(writing)):
                self.wrong(writing[:many])
                self.wrong([65] + writing[:many], place=1)

    def test_a_following_byte_is_another_one(self):
        for _, writing in STEPS_WRITINGS:
            for at in range(1, len(writing)):
                for byte in (0, 65, 127, 192, 194, 224, 240, 255):
                    self.wrong(writing[:at] + [byte] + writing[at + 1:])
                    self.wrong(writing[:at] + [byte] + [128, 128, 128])

    def test_each_leading_byte_behind_a_following_byte_on_the_edge(self):
        for lead, many in ((223, 2), (239, 3), (247, 4)):
            good = [lead] + [191] * (many - 1)
            self.assertEqual(read_sign(good, 0, 0)[0], "sign")
            for at in range(1, many):
                self.wrong(good[:at] + [192] + good[at + 1:])
                self.wrong(good[:at] + [127] + good[at + 1:])

    def test_a_longer_writing_than_the_signs(self):
        for row in (
            [192, 128], [192, 191], [193, 128], [193, 191],
            [224, 128, 128], [224, 159, 191], [224, 130, 128],
            [240, 128, 128, 128], [240, 143, 191, 191], [240, 130, 130, 172],
        ):
            self.wrong(row)
            self.wrong([65] + row + [65], place=1)

    def test_just_one_byte_is_wrong(self):
        self.wrong([240, 144, 128, 65])
        self.wrong([240, 144, 128, 65], place=1)
        self.wrong([240, 144, 128, 65], place=2)
        self.assertEqual(read_sign([240, 144, 128, 65], 3, 0), ("sign", 65, 4, 0))

    def test_all_rows_of_two_bytes(self):
        for first, second in itertools.product(range(0, 256, 3), range(0, 256, 7)):
            word, sign, place, state = read_sign([first, second], 0, 0)
            if first < 128:
                self.assertEqual((word, sign, place, state), ("sign", first, 1, 0))
            elif 194 <= first < 224 and 128 <= second < 192:
                self.assertEqual((word, sign, place, state), ("sign", (first - 192) * 64 + second - 128, 2, 0))
            else:
                self.assertEqual((word, sign, place, state), ("wrong", 0, 1, 0))

    def test_the_last_byte_of_an_odd_row_in_wide(self):
        for state in (1, 2):
            self.wrong([5], state=state, code="wide")
            self.wrong([254], state=state, code="wide")
            self.wrong([1, 2, 5], place=2, state=state, code="wide")

    def test_the_last_byte_of_an_odd_row_in_the_first_state_of_wide(self):
        for byte in (5, 254, 255):
            self.wrong([byte], code="wide", end_state=2)
        self.assertEqual(read_sign([254, 255, 5], 0, 0, code="wide"), ("wrong", 0, 3, 2))
        self.assertEqual(read_sign([255, 254, 5], 0, 0, code="wide"), ("wrong", 0, 3, 1))

    def test_none_in_plain_and_turn(self):
        for code in ("plain", "turn"):
            for byte in range(256):
                self.assertEqual(read_sign([byte, 1], 0, 0, code=code)[0], "sign")


class ListsOfPointTwo(unittest.TestCase):
    def test_handed_in_and_told(self):
        for code in CODES:
            signs = [65, 66]
            row, state = write_signs(signs, 0, code=code)
            self.assertEqual(signs, [65, 66])
            whole = list(row)
            row.append(77)
            self.assertEqual(write_signs(signs, 0, code=code), (whole, state))
            read_sign(whole, 0, 0, code=code)
            self.assertEqual(write_signs(signs, 0, code=code), (whole, state))
            again, _ = write_signs(signs, 0, code=code)
            signs[0] = 1
            self.assertEqual(again, whole)

    def test_a_mark_that_was_told_is_the_askers_own(self):
        row, _ = write_signs([65], 0, code="wide")
        row[0] = 77
        self.assertEqual(write_signs([65], 0, code="wide"), ([254, 255, 0, 65], 2))


if __name__ == "__main__":
    unittest.main()
