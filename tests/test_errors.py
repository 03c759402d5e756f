"""[3]: the classes of the refusals."""

import unittest

from toldback import errors

NAMES = [
    "NoFraction", "NoPrime", "NoReadings", "NoBounds", "NoNumber", "TooFew", "TooMany", "NoText",
    "NoName", "NoRow", "NoPoly", "NoQuotient", "NoWorths", "NoDegrees",
]


class Errors(unittest.TestCase):
    def test_all_stand_under_back_error(self):
        self.assertEqual(errors.BackError.__mro__[1], ValueError)
        for name in NAMES:
            self.assertTrue(issubclass(getattr(errors, name), errors.BackError), name)
            self.assertTrue(issubclass(getattr(errors, name), ValueError), name)

    def test_none_stands_under_another(self):
        for name in NAMES:
            for other in NAMES:
                under = issubclass(getattr(errors, name), getattr(errors, other))
                self.assertEqual(under, name == other, (name, other))

    def test_each_is_made_with_one_text(self):
        for name in NAMES + ["BackError"]:
            for text in ["", "why", "two\nrows", "'quoted'"]:
                self.assertEqual(str(getattr(errors, name)(text)), text)

    def test_each_is_caught_as_a_back_error(self):
        for name in NAMES:
            with self.assertRaises(errors.BackError) as caught:
                raise getattr(errors, name)("why")
            self.assertEqual(str(caught.exception), "why")


if __name__ == "__main__":
    unittest.main()
