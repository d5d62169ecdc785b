import unittest

from coinrows import errors

KINDS = ("NoNumber", "NoRule", "NoRow", "NoTurn", "NoBoard", "NoNote")


class ErrorsTest(unittest.TestCase):
    def test_any_refusal_stands_straight_under_value_error(self):
        self.assertEqual(errors.CoinError.__bases__, (ValueError,))
        self.assertEqual(errors.CoinError.__name__, "CoinError")

    def test_each_kind_stands_straight_under_coin_error(self):
        for kind in KINDS:
            with self.subTest(kind=kind):
                found = getattr(errors, kind)
                self.assertEqual(found.__bases__, (errors.CoinError,))
                self.assertEqual(found.__name__, kind)

    def test_no_kind_is_another_one(self):
        for kind in KINDS:
            for other in KINDS:
                with self.subTest(kind=kind, other=other):
                    under = issubclass(getattr(errors, kind), getattr(errors, other))
                    self.assertEqual(under, kind == other)

    def test_each_kind_can_be_raised_and_taken_as_any_refusal(self):
        for kind in KINDS:
            for taken in (getattr(errors, kind), errors.CoinError, ValueError):
                with self.subTest(kind=kind, taken=taken):
                    with self.assertRaises(taken):
                        raise getattr(errors, kind)("words")


if __name__ == "__main__":
    unittest.main()
