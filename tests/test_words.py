import unittest

from sipstack import words

NUMBERS = {"LONGEST": 4000, "ROOM": 8, "BROKEN": 99, "FULL": 98}

WORDS = (
    "PLAIN", "STEPS", "WIDE", "TURN",
    "ANY", "KEPT", "FEED", "RETURN", "BOTH",
    "STRICT", "MARK",
)


class NumbersOfPointTwo(unittest.TestCase):
    def test_each_number(self):
        for name, number in NUMBERS.items():
            with self.subTest(name):
                self.assertEqual(getattr(words, name), number)

    def test_each_is_a_whole_number_and_no_truth(self):
        for name in NUMBERS:
            with self.subTest(name):
                self.assertIs(type(getattr(words, name)), int)


class WordsOfTheInterface(unittest.TestCase):
    def test_each_word_is_that_of_its_own_small_letters(self):
        for name in WORDS:
            with self.subTest(name):
                self.assertEqual(getattr(words, name), name.lower())
                self.assertIs(type(getattr(words, name)), str)


if __name__ == "__main__":
    unittest.main()
