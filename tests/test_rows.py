import inspect
import itertools
import unittest

from sipstack import rows
from sipstack.errors import NoRow, SipError
from sipstack.rows import laid, read_row, row_text
from sipstack.words import LONGEST

FIGURES = "0123456789abcdef"


def laid_byte_by_byte(row, place, data):
    """Point 5, told once more byte by byte, to hold laid against."""
    told = []
    if len(data) == 0:
        for byte in row:
            told.append(byte)
        return told
    for at in range(max(len(row), place + len(data))):
        if place <= at < place + len(data):
            told.append(data[at - place])
        elif at < len(row):
            told.append(row[at])
        else:
            told.append(0)
    return told


class Defined(unittest.TestCase):
    def test_where_and_how_they_are_defined(self):
        for told, arguments in ((laid, "(row, place, data)"), (row_text, "(row)"), (read_row, "(text)")):
            self.assertEqual(told.__module__, rows.__name__)
            self.assertEqual(str(inspect.signature(told)), arguments)


class Laid(unittest.TestCase):
    def test_within_the_row(self):
        self.assertEqual(laid([1, 2, 3, 4, 5], 1, [8, 9]), [1, 8, 9, 4, 5])

    def test_at_the_beginning(self):
        self.assertEqual(laid([1, 2, 3], 0, [9]), [9, 2, 3])

    def test_over_the_whole_row_and_beyond(self):
        self.assertEqual(laid([1, 2, 3], 0, [7, 8, 9]), [7, 8, 9])
        self.assertEqual(laid([1, 2, 3], 2, [7, 8, 9]), [1, 2, 7, 8, 9])

    def test_at_the_end(self):
        self.assertEqual(laid([1, 2, 3], 3, [9]), [1, 2, 3, 9])

    def test_behind_the_end_noughts_lie_between(self):
        self.assertEqual(laid([1, 2], 3, [9]), [1, 2, 0, 9])
        self.assertEqual(laid([1, 2], 5, [8, 9]), [1, 2, 0, 0, 0, 8, 9])

    def test_upon_the_row_without_bytes(self):
        self.assertEqual(laid([], 0, [9]), [9])
        self.assertEqual(laid([], 2, [9]), [0, 0, 9])

    def test_at_longest(self):
        self.assertEqual(laid([7], LONGEST, [1, 2]), [7] + [0] * (LONGEST - 1) + [1, 2])
        self.assertEqual(laid([7] * LONGEST, LONGEST, [1]), [7] * LONGEST + [1])
        self.assertEqual(laid([7] * LONGEST, LONGEST - 1, [1]), [7] * (LONGEST - 1) + [1])

    def test_many_bytes_at_longest(self):
        data = [at % 256 for at in range(400)]
        self.assertEqual(laid([], LONGEST, data), [0] * LONGEST + data)

    def test_what_was_told_may_be_handed_in_again(self):
        long = laid([], LONGEST, [5] * 400)
        self.assertEqual(laid(long, 1, long), [0] + long)
        self.assertEqual(laid(long, LONGEST + 399, [6]), long[:-1] + [6])

    def test_what_lies_beyond_stays(self):
        row = list(range(256))
        self.assertEqual(laid(row, 100, [0, 0]), row[:100] + [0, 0] + row[102:])

    def test_without_bytes_changes_nothing_and_lengthens_nothing(self):
        for row in ([], [1], [1, 2, 3]):
            for place in (0, 1, 2, 3, 4, 50, LONGEST):
                with self.subTest(row=row, place=place):
                    self.assertEqual(laid(row, place, []), row)

    def test_all_small_ones(self):
        for length, place, many in itertools.product(range(6), range(9), range(6)):
            row = [10 + at for at in range(length)]
            data = [100 + at for at in range(many)]
            with self.subTest(length=length, place=place, many=many):
                self.assertEqual(laid(row, place, data), laid_byte_by_byte(row, place, data))

    def test_told_is_a_list_of_whole_numbers(self):
        told = laid([1, 0], 4, [255])
        self.assertIs(type(told), list)
        self.assertEqual([type(byte) for byte in told], [int] * 5)


class ListsOfPointTwo(unittest.TestCase):
    PLACES = (0, 1, 3, 7)
    DATAS = ([], [9], [7, 8, 9, 10])

    def test_laid_changes_nothing_that_is_handed_in(self):
        for place, data in itertools.product(self.PLACES, self.DATAS):
            row, over = [1, 2, 3], list(data)
            laid(row, place, over)
            self.assertEqual((row, over), ([1, 2, 3], data))

    def test_what_laid_told_is_the_askers_own(self):
        for place, data in itertools.product(self.PLACES, self.DATAS):
            row, over = [1, 2, 3], list(data)
            told = laid(row, place, over)
            whole = list(told)
            told.append(5)
            told[0] = 77
            self.assertEqual((row, over), ([1, 2, 3], data))
            self.assertEqual(laid(row, place, over), whole)

    def test_what_is_changed_afterwards_changes_nothing_told(self):
        for place, data in itertools.product(self.PLACES, self.DATAS):
            row, over = [1, 2, 3], list(data)
            told = laid(row, place, over)
            whole = list(told)
            row[0] = 88
            row.clear()
            over.append(88)
            self.assertEqual(told, whole)

    def test_a_row_over_itself(self):
        row = [1, 2, 3]
        self.assertEqual(laid(row, 1, row), [1, 1, 2, 3])
        self.assertEqual(laid(row, 5, row), [1, 2, 3, 0, 0, 1, 2, 3])
        self.assertEqual(row, [1, 2, 3])

    def test_row_text_changes_nothing_that_is_handed_in(self):
        row = [10, 13, 255]
        told = row_text(row)
        self.assertEqual(row, [10, 13, 255])
        row[0] = 0
        self.assertEqual(told, "0a0dff")
        self.assertEqual(row_text(row), "000dff")

    def test_what_read_row_told_is_the_askers_own(self):
        for text, row in (("", []), ("0a", [10]), ("0a0dff", [10, 13, 255])):
            told = read_row(text)
            told.append(1)
            told[0] = 77
            self.assertEqual(read_row(text), row)


class Written(unittest.TestCase):
    def test_the_example(self):
        self.assertEqual(row_text([10, 13, 255]), "0a0dff")

    def test_the_row_without_bytes(self):
        self.assertEqual(row_text([]), "")

    def test_each_byte(self):
        for byte in range(256):
            with self.subTest(byte):
                self.assertEqual(row_text([byte]), FIGURES[byte // 16] + FIGURES[byte % 16])

    def test_no_sign_between(self):
        self.assertEqual(row_text([0, 1, 0, 16]), "00010010")

    def test_a_long_row(self):
        self.assertEqual(row_text([171] * (LONGEST + 400)), "ab" * (LONGEST + 400))


class ReadBack(unittest.TestCase):
    def refused(self, text):
        with self.subTest(text=ascii(text)):
            with self.assertRaises(SipError) as caught:
                read_row(text)
            self.assertIs(type(caught.exception), NoRow)

    def test_the_example(self):
        self.assertEqual(read_row("0a0dff"), [10, 13, 255])

    def test_the_str_without_signs(self):
        self.assertEqual(read_row(""), [])

    def test_each_byte(self):
        for byte in range(256):
            told = read_row(FIGURES[byte // 16] + FIGURES[byte % 16])
            self.assertEqual(told, [byte])
            self.assertIs(type(told), list)
            self.assertIs(type(told[0]), int)

    def test_each_row_is_read_back(self):
        for row in ([], [0], [0, 0], [255] * 3, list(range(256)), list(range(255, -1, -1)), [18] * (LONGEST + 400)):
            self.assertEqual(read_row(row_text(row)), row)

    def test_an_odd_count_of_figures(self):
        for text in ("0", "a", "0a0", "0a0df", "00000"):
            self.refused(text)

    def test_great_letters(self):
        for text in ("0A", "A0", "FF", "fF", "Ff", "0a0D"):
            self.refused(text)

    def test_another_sign(self):
        for text in ("0g", "g0", "zz", "0x", "0x0a", "+1", "-1", "1_", "_1", "1_1_", "0.", "{}", "\\n", "\x00\x00"):
            self.refused(text)

    def test_a_sign_between_ahead_or_behind(self):
        for text in ("0a 0d", "0a, 0d", "0a:0d:ff", "0a  0d", "0 ", " 0", " 0a ", "0a\n", "0a\n\n", "0 a0", "a b c d "):
            self.refused(text)

    def test_a_wrong_sign_anywhere(self):
        for at in range(6):
            self.refused("0a0dff"[:at] + "?" + "0a0dff"[at + 1:])

    def test_figures_and_letters_of_other_scripts(self):
        for text in ("\u0660\u0661", "\uff11\uff12", "\uff41\uff42", "0\u00b2", "\u0430\u0430", "\ud800\ud800"):
            self.refused(text)

    def test_just_the_sixteen_figures(self):
        for number in range(1000):
            sign = chr(number)
            if sign in FIGURES:
                self.assertEqual(read_row(sign + sign), [17 * FIGURES.index(sign)])
            else:
                for text in (sign + "0", "0" + sign, sign + sign):
                    self.refused(text)


if __name__ == "__main__":
    unittest.main()
