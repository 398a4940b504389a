import unittest

from lamprota.errors import BadBook, BadRow, BadTicks, LampError, NoDeed, NoRest

REFUSALS = ((BadBook, "words"), (BadTicks, "words"), (NoDeed, "words"), (NoRest, "words"), (BadRow, 7))


class Errors(unittest.TestCase):
    """Point 0.4."""

    def test_lamp_error_stands_straight_under_value_error(self):
        self.assertEqual(LampError.__bases__, (ValueError,))

    def test_each_refusal_stands_straight_under_lamp_error(self):
        for kind, made_with in REFUSALS:
            self.assertEqual(kind.__bases__, (LampError,))

    def test_each_refusal_is_taken_by_its_own_class_and_those_above_alone(self):
        for kind, made_with in REFUSALS:
            for taker in (LampError, ValueError, kind):
                with self.assertRaises(taker):
                    raise kind(made_with)
            for other, other_made_with in REFUSALS:
                self.assertEqual(isinstance(kind(made_with), other), kind is other)

    def test_bad_row_keeps_its_number(self):
        for number in (1, 2, 6001):
            self.assertEqual(BadRow(number).row, number)

    def test_others_keep_their_text(self):
        for kind, made_with in REFUSALS[:-1]:
            self.assertEqual(str(kind("so it is")), "so it is")
