import inspect
import unittest

from sipstack import errors

MADE_WITH_NOTHING = (
    "NoRow", "Closed", "NoSeek", "NoCut", "NoReads", "NoWrites", "BadCount", "BadStart", "BadRoom", "Same",
    "NotRecord",
)

SIGNATURES = {
    "Fault": "(number, *, taken=0)",
    "Stalled": "(*, taken=0)",
    "TooLong": "(length)",
    "BadPlace": "(goal)",
    "NotByte": "(at)",
    "BadCode": "(at)",
    "NoSign": "(sign)",
    "NoLine": "(at)",
    "NoCode": "(word)",
    "NoEnds": "(word)",
    "NoWay": "(word)",
    "PourFault": "(number, *, count=0, side='source')",
}

# One object of each class that is made of values, with the values it must keep.
MADE_OF_VALUES = (
    (lambda: errors.Fault(7), "Fault", {"number": 7, "taken": 0}),
    (lambda: errors.Fault(7, taken=3), "Fault", {"number": 7, "taken": 3}),
    (lambda: errors.Stalled(), "Stalled", {"taken": 0}),
    (lambda: errors.Stalled(taken=5), "Stalled", {"taken": 5}),
    (lambda: errors.TooLong(4001), "TooLong", {"length": 4001}),
    (lambda: errors.BadPlace(-1), "BadPlace", {"goal": -1}),
    (lambda: errors.NotByte(2), "NotByte", {"at": 2}),
    (lambda: errors.BadCode(9), "BadCode", {"at": 9}),
    (lambda: errors.NoSign(70000), "NoSign", {"sign": 70000}),
    (lambda: errors.NoLine(-4), "NoLine", {"at": -4}),
    (lambda: errors.NoCode("latin"), "NoCode", {"word": "latin"}),
    (lambda: errors.NoEnds(""), "NoEnds", {"word": ""}),
    (lambda: errors.NoWay("pour"), "NoWay", {"word": "pour"}),
    (lambda: errors.PourFault(98), "PourFault", {"number": 98, "count": 0, "side": "source"}),
    (lambda: errors.PourFault(98, count=6), "PourFault", {"number": 98, "count": 6, "side": "source"}),
    (lambda: errors.PourFault(98, side="target"), "PourFault", {"number": 98, "count": 0, "side": "target"}),
    (lambda: errors.PourFault(98, side="target", count=6), "PourFault",
     {"number": 98, "count": 6, "side": "target"}),
)

NAMES = MADE_WITH_NOTHING + tuple(SIGNATURES)


def one_of_each():
    made = [getattr(errors, name)() for name in MADE_WITH_NOTHING]
    return made + [make() for make, _, _ in MADE_OF_VALUES]


class Families(unittest.TestCase):
    def test_sip_error_is_straight_beneath_value_error(self):
        self.assertEqual(errors.SipError.__bases__, (ValueError,))

    def test_each_class_is_straight_beneath_sip_error(self):
        for name in NAMES:
            with self.subTest(name):
                self.assertEqual(getattr(errors, name).__bases__, (errors.SipError,))

    def test_there_are_just_the_listed_classes(self):
        defined = [name for name, thing in vars(errors).items() if inspect.isclass(thing)]
        self.assertEqual(sorted(defined), sorted(NAMES + ("SipError",)))

    def test_each_name_is_a_class_of_its_own(self):
        for name in NAMES + ("SipError",):
            with self.subTest(name):
                self.assertEqual(getattr(errors, name).__name__, name)
                self.assertEqual(getattr(errors, name).__module__, "sipstack.errors")

    def test_each_is_taken_by_sip_error_and_value_error(self):
        for error in one_of_each():
            for family in (errors.SipError, ValueError):
                with self.subTest(error=error, family=family):
                    with self.assertRaises(family) as caught:
                        raise error
                    self.assertIs(caught.exception, error)

    def test_each_is_taken_by_no_other_class_of_refusal(self):
        for error in one_of_each():
            taken_by = [name for name in NAMES if isinstance(error, getattr(errors, name))]
            self.assertEqual(taken_by, [type(error).__name__])

    def test_a_handler_of_another_class_lets_it_through(self):
        with self.assertRaises(errors.NoReads):
            try:
                raise errors.NoReads()
            except errors.NoWrites:
                self.fail("NoReads was taken by NoWrites")


class Values(unittest.TestCase):
    def test_how_each_is_made(self):
        for name, signature in SIGNATURES.items():
            with self.subTest(name):
                self.assertEqual(str(inspect.signature(getattr(errors, name))), signature)

    def test_values_under_their_names(self):
        for make, name, values in MADE_OF_VALUES:
            with self.subTest(name, values=values):
                error = make()
                self.assertIs(type(error), getattr(errors, name))
                self.assertEqual(vars(error), values)

    def test_values_are_there_when_it_is_caught(self):
        with self.assertRaises(errors.SipError) as caught:
            raise errors.Fault(12, taken=4)
        self.assertEqual((caught.exception.number, caught.exception.taken), (12, 4))

    def test_two_objects_keep_their_own_values(self):
        first = errors.Fault(1, taken=2)
        errors.Fault(3)
        self.assertEqual((first.number, first.taken), (1, 2))

    def test_values_behind_the_star_are_not_taken_by_their_order(self):
        for make in (
            lambda: errors.Fault(1, 2),
            lambda: errors.Stalled(1),
            lambda: errors.PourFault(1, 2),
            lambda: errors.PourFault(1, 2, "target"),
        ):
            with self.assertRaises(TypeError):
                make()

    def test_a_value_without_a_default_is_needed(self):
        for name in SIGNATURES:
            if name != "Stalled":
                with self.subTest(name), self.assertRaises(TypeError):
                    getattr(errors, name)()

    def test_any_whole_number_and_any_text(self):
        # Python refuses to write a number of so many figures as a str.
        huge = 10 ** 6000
        for number in (-huge, -1, 0, huge):
            self.assertEqual(errors.Fault(number, taken=number).number, number)
            self.assertEqual(errors.Stalled(taken=number).taken, number)
            self.assertEqual(errors.TooLong(number).length, number)
            self.assertEqual(errors.PourFault(number, count=number, side="").count, number)
        for word in ("", "{}", "a\nb", "\ud800", "\u0431"):
            self.assertEqual(errors.NoCode(word).word, word)
            self.assertEqual(errors.PourFault(1, side=word).side, word)

    def test_those_made_with_nothing(self):
        for name in MADE_WITH_NOTHING + ("SipError",):
            with self.subTest(name):
                self.assertIs(type(getattr(errors, name)()), getattr(errors, name))


if __name__ == "__main__":
    unittest.main()
