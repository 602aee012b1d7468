import unittest

from relaid import errors

TOLD = ("BadLengths", "BadOrder", "BadTurned", "Outside", "BadText", "TooMany", "Unlike", "BadAddress",
        "BadArches", "Loose", "BadRow")
WITH_ROW = ("BadText", "BadRow")


class Errors(unittest.TestCase):
    def test_line_error_stands_beneath_value_error(self):
        self.assertEqual(errors.LineError.__bases__, (ValueError,))

    def test_each_refusal_stands_straight_beneath_line_error(self):
        for name in TOLD:
            self.assertEqual(getattr(errors, name).__bases__, (errors.LineError,), name)
            self.assertEqual(getattr(errors, name).__name__, name)

    def test_none_stands_beneath_another_one(self):
        for one in TOLD:
            for other in TOLD:
                beneath = issubclass(getattr(errors, one), getattr(errors, other))
                self.assertEqual(beneath, one == other, (one, other))

    def test_at_is_the_number_told(self):
        for name in WITH_ROW:
            for at in (1, 2, 3, 77, 10 ** 40):
                refusal = getattr(errors, name)(at)
                self.assertEqual(refusal.at, at)
                self.assertIs(type(refusal.at), int)

    def test_each_refusal_keeps_its_own_at(self):
        one, two = errors.BadText(1), errors.BadText(2)
        three, four = errors.BadRow(3), errors.BadRow(4)
        self.assertEqual([one.at, two.at, three.at, four.at], [1, 2, 3, 4])

    def test_others_are_made_with_a_text_and_with_nothing(self):
        for name in TOLD:
            if name not in WITH_ROW:
                self.assertIsInstance(getattr(errors, name)("some words"), errors.LineError)
                self.assertIsInstance(getattr(errors, name)(), errors.LineError)

    def test_raised_ones_are_taken_by_each_class_above(self):
        for name in TOLD:
            refusal = getattr(errors, name)
            for above in (refusal, errors.LineError, ValueError):
                with self.assertRaises(above):
                    raise refusal(5) if name in WITH_ROW else refusal("some words")


if __name__ == "__main__":
    unittest.main()
