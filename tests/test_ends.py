"""Point 26, of it what is written: each feed by the five ways."""

import unittest

from helper import outcome, refused
from sipstack.ends import written_ends

TEXT = [65, 10, 66, 13, 67, 13, 10, 68, 10, 10, 13]


class Written(unittest.TestCase):
    def test_those_by_which_all_stays(self):
        for ends in ("any", "kept", "feed"):
            self.assertEqual(written_ends(TEXT, ends=ends), TEXT)

    def test_return(self):
        self.assertEqual(written_ends(TEXT, ends="return"), [65, 13, 66, 13, 67, 13, 13, 68, 13, 13, 13])

    def test_both(self):
        expected = [65, 13, 10, 66, 13, 67, 13, 13, 10, 68, 13, 10, 13, 10, 13]
        self.assertEqual(written_ends(TEXT, ends="both"), expected)

    def test_one_feed_and_one_return(self):
        for ends, feed in (("any", [10]), ("kept", [10]), ("feed", [10]), ("return", [13]), ("both", [13, 10])):
            self.assertEqual(written_ends([10], ends=ends), feed)
            self.assertEqual(written_ends([13], ends=ends), [13])
            self.assertEqual(written_ends([], ends=ends), [])
            self.assertEqual(written_ends([0, 9, 11, 12, 14, 65533, 2097151], ends=ends),
                             [0, 9, 11, 12, 14, 65533, 2097151])

    def test_the_way_left_out(self):
        self.assertEqual(written_ends(TEXT), TEXT)

    def test_another_word(self):
        for word in ("", "Any", "lines", "steps", "both ", "\n"):
            for signs in ([], [10]):
                self.assertEqual(outcome(written_ends, signs, ends=word), refused("NoEnds", word=word))

    def test_lists_of_point_two(self):
        for ends in ("any", "kept", "feed", "return", "both"):
            signs = [65, 10]
            told = written_ends(signs, ends=ends)
            whole = list(told)
            self.assertEqual(signs, [65, 10])
            signs.append(10)
            self.assertEqual(told, whole)
            told.append(77)
            self.assertEqual(signs, [65, 10, 10])
            self.assertEqual(written_ends([65, 10], ends=ends), whole)


if __name__ == "__main__":
    unittest.main()
