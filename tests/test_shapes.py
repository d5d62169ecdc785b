import unittest

from coinrows.errors import NoNumber
from coinrows.shapes import check_number


class CheckNumberTest(unittest.TestCase):
    def test_every_number_of_the_field_passes(self):
        for number in range(65536):
            check_number(number)

    def test_any_other_number_is_refused(self):
        for number in (-(10 ** 5000), -65536, -2, -1, 65536, 65537, 131071, 10 ** 5000):
            with self.assertRaises(NoNumber):
                check_number(number)


if __name__ == "__main__":
    unittest.main()
