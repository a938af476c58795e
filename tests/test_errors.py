"""The refusals, each straight under PairError."""

import unittest

from pairlattice import errors

NAMES = ("BadBook", "BadPairing", "NotGood", "NoTurning", "NotClosed", "BadText")


class Refusals(unittest.TestCase):
    def test_pair_error_is_a_value_error(self):
        self.assertEqual(errors.PairError.__bases__, (ValueError,))

    def test_each_is_straight_under_pair_error(self):
        for name in NAMES:
            with self.subTest(name):
                self.assertEqual(getattr(errors, name).__bases__, (errors.PairError,))

    def test_none_is_another_one(self):
        for name in NAMES:
            for other in NAMES:
                with self.subTest(name, other=other):
                    under = issubclass(getattr(errors, name), getattr(errors, other))
                    self.assertEqual(under, name == other)

    def test_each_can_be_caught_as_any_refusal(self):
        for name in NAMES:
            for caught in (errors.PairError, ValueError):
                with self.subTest(name), self.assertRaises(caught):
                    raise getattr(errors, name)("words")


if __name__ == "__main__":
    unittest.main()
