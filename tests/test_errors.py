"""The error classes."""

import unittest

from eachinturn import errors

NAMES = [
    "BadWeb", "BadPlace", "BadHall", "BadState", "BadRows", "BadOrder", "BadCount", "BadArrows", "BadRing",
    "BadMoves", "BadPieces", "BadDays", "BadRules", "BadRule", "BadJoin", "BadTurns", "BadLengths", "BadPart",
    "BadSamples", "BadOrders", "BadIndex", "NothingToUndo", "Full", "BadCommand", "TooMany",
]


class ErrorsTest(unittest.TestCase):
    def test_turn_error_is_directly_under_value_error(self):
        self.assertEqual(errors.TurnError.__bases__, (ValueError,))

    def test_there_are_twenty_five_unlike_classes(self):
        self.assertEqual(len({getattr(errors, name) for name in NAMES}), 25)

    def test_each_class_is_directly_under_turn_error(self):
        for name in NAMES:
            with self.subTest(name):
                self.assertEqual(getattr(errors, name).__bases__, (errors.TurnError,))

    def test_each_class_has_its_own_name_and_stands_in_its_file(self):
        for name in NAMES + ["TurnError"]:
            with self.subTest(name):
                self.assertEqual(getattr(errors, name).__name__, name)
                self.assertEqual(getattr(errors, name).__module__, "eachinturn.errors")

    def test_no_class_is_caught_as_another_one(self):
        for name in NAMES:
            for other in NAMES:
                is_under = issubclass(getattr(errors, name), getattr(errors, other))
                self.assertEqual(is_under, name == other, (name, other))

    def test_each_is_made_with_one_text(self):
        for name in NAMES + ["TurnError"]:
            if name != "BadRows":
                with self.subTest(name):
                    self.assertEqual(str(getattr(errors, name)("what is wrong")), "what is wrong")

    def test_each_can_be_raised_and_caught_as_turn_error_and_value_error(self):
        for name in NAMES:
            error = errors.BadRows(1, 2) if name == "BadRows" else getattr(errors, name)("what is wrong")
            for kind in (getattr(errors, name), errors.TurnError, ValueError):
                with self.subTest(name), self.assertRaises(kind):
                    raise error


class BadRowsTest(unittest.TestCase):
    def check(self, error, row, word):
        self.assertEqual((error.row, error.word), (row, word))
        self.assertIs(type(error.row), int)
        self.assertIs(type(error.word), int)
        self.assertIsInstance(str(error), str)

    def test_fields_by_position(self):
        self.check(errors.BadRows(3, 5), 3, 5)
        self.check(errors.BadRows(0, 0), 0, 0)

    def test_fields_by_name(self):
        self.check(errors.BadRows(row=3, word=5), 3, 5)
        self.check(errors.BadRows(word=5, row=3), 3, 5)
        self.check(errors.BadRows(3, word=5), 3, 5)

    def test_two_errors_have_their_own_fields(self):
        one, other = errors.BadRows(1, 2), errors.BadRows(4, 3)
        self.check(one, 1, 2)
        self.check(other, 4, 3)

    def test_it_wants_both(self):
        with self.assertRaises(TypeError):
            errors.BadRows()
        with self.assertRaises(TypeError):
            errors.BadRows(1)


if __name__ == "__main__":
    unittest.main()
