"""Tests of stylefall.errors: where each class stands and what it keeps."""

import unittest

from stylefall import errors
from tests.things import Awkward, odd_things

PLACED = ("BadBook", "BadStream", "BadRule", "BadText")
GIVEN = ("BadTerminal", "BadEntry", "BadChain", "BadRow", "BadWishes", "BadWrappers", "BadTree")
REFUSALS = PLACED + GIVEN + ("TooMany", "BadQuestion")


class Standing(unittest.TestCase):
    def test_refusals_stand_straight_under_style_error(self):
        self.assertEqual(errors.StyleError.__bases__, (ValueError,))
        for name in REFUSALS:
            self.assertEqual(getattr(errors, name).__bases__, (errors.StyleError,), name)

    def test_the_others_stand_under_errors_of_python(self):
        self.assertEqual(errors.Parts.__bases__, (RuntimeError,))
        self.assertEqual(errors.Missing.__bases__, (KeyError,))

    def test_none_stands_under_another_one(self):
        names = REFUSALS + ("Parts", "Missing")
        for name in names:
            for other in names:
                if name != other:
                    self.assertFalse(issubclass(getattr(errors, name), getattr(errors, other)))

    def test_all_are_defined_in_this_file(self):
        for name in REFUSALS + ("StyleError", "Parts", "Missing"):
            self.assertEqual(getattr(errors, name).__module__, "stylefall.errors")
            self.assertEqual(getattr(errors, name).__name__, name)


class Keeping(unittest.TestCase):
    def check_keeps(self, name, attribute, thing):
        error = getattr(errors, name)(thing)
        self.assertIs(getattr(error, attribute), thing)
        self.assertEqual(list(vars(error)), [attribute])
        self.assertIsInstance(str(error), str)
        with self.assertRaises(getattr(errors, name)) as caught:
            raise error
        self.assertIs(getattr(caught.exception, attribute), thing)

    def test_places(self):
        for name in PLACED:
            for place in (None, 0, 15, 199, "aspects", "shown", "codes"):
                self.check_keeps(name, "place", place)

    def test_given_things_of_all_kinds(self):
        for name in GIVEN:
            for thing in odd_things():
                self.check_keeps(name, "given", thing)

    def test_most(self):
        self.check_keeps("TooMany", "most", 10)

    def test_a_missing_name_of_any_kind(self):
        for thing in odd_things():
            self.check_keeps("Missing", "name", thing)

    def test_a_question_is_made_with_a_text(self):
        self.assertEqual(str(errors.BadQuestion("no such word")), "no such word")

    def test_parts_keeps_a_parting(self):
        terminal, entry = ("basic",), {"ink": "red"}
        error = errors.Parts(terminal, entry, 3)
        self.assertIs(error.terminal, terminal)
        self.assertIs(error.entry, entry)
        self.assertEqual(error.number, 3)
        self.assertIsInstance(str(error), str)

    def test_each_object_keeps_its_own(self):
        one, other = errors.BadTerminal(1), errors.BadTerminal(2)
        self.assertEqual((one.given, other.given), (1, 2))

    def test_what_can_not_be_shown_is_kept_too(self):
        thing = Awkward()
        self.assertIs(errors.BadTree(thing).given, thing)
        self.assertIsInstance(str(errors.BadTree(thing)), str)
        self.assertIsInstance(repr(errors.BadTree(10 ** 5000)), str)


if __name__ == "__main__":
    unittest.main()
