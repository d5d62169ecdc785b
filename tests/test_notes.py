import unittest

from coinrows import errors
from coinrows.notes import read, shown
from reckoning import WRONG_ROWS, assert_refused, subsets

FULL = list(range(40))


class ShownTest(unittest.TestCase):
    def test_ordinary_rows(self):
        self.assertEqual(shown([], 3), "...")
        self.assertEqual(shown([0, 2], 3), "o.o")
        self.assertEqual(shown([1], 5), ".o...")
        self.assertEqual(shown([0, 1, 2], 3), "ooo")

    def test_no_sign_one_sign_and_forty(self):
        self.assertEqual(shown([], 0), "")
        self.assertEqual(shown([], 1), ".")
        self.assertEqual(shown([0], 1), "o")
        self.assertEqual(shown([], 40), "." * 40)
        self.assertEqual(shown(FULL, 40), "o" * 40)
        self.assertEqual(shown([39], 40), "." * 39 + "o")

    def test_lists_that_are_no_rows(self):
        for heads in WRONG_ROWS:
            for size in (0, 1, 5, 40, 41, -1):
                assert_refused(self, errors.NoRow, shown, heads, size)

    def test_a_place_beyond_the_signs(self):
        for place in range(40):
            for size in range(place + 1):
                assert_refused(self, errors.NoRow, shown, [place], size)
            self.assertEqual(shown([place], place + 1), "." * place + "o")
        assert_refused(self, errors.NoRow, shown, FULL, 39)
        assert_refused(self, errors.NoRow, shown, [0, 3], 3)

    def test_too_few_and_too_many_signs(self):
        for size in (-1, -2, -40, 41, 42, 1000, 10 ** 5000, -(10 ** 5000)):
            for heads in ([], [0], FULL):
                assert_refused(self, errors.NoRow, shown, heads, size)


class ReadTest(unittest.TestCase):
    def test_ordinary_texts(self):
        self.assertEqual(read("..o"), [2])
        self.assertEqual(read("o.o.."), [0, 2])
        self.assertEqual(read("..."), [])

    def test_no_sign_one_sign_and_forty(self):
        self.assertEqual(read(""), [])
        self.assertEqual(read("."), [])
        self.assertEqual(read("o"), [0])
        self.assertEqual(read("." * 40), [])
        self.assertEqual(read("o" * 40), FULL)
        self.assertEqual(read("." * 39 + "o"), [39])

    def test_too_many_signs(self):
        for text in ("." * 41, "o" * 41, "o." * 30, "." * 10000, "o" * 40 + "x"):
            assert_refused(self, errors.NoNote, read, text)

    def test_other_signs(self):
        for sign in (
            "O", "0", " ", "\n", "\t", ",", "x", "-", "*", "\0", "\u00f6", "\u043e", "\u2024", "\U0001f600", "\udc80",
        ):
            for text in (sign, "o" + sign, sign + ".", "o." + sign + ".o", "." * 39 + sign, sign * 41):
                assert_refused(self, errors.NoNote, read, text)

    def test_what_is_written_is_read_again(self):
        for heads in subsets(range(6)):
            for size in (6, 7, 40):
                text = shown(heads, size)
                self.assertEqual(len(text), size)
                self.assertEqual(read(text), heads)
                self.assertEqual(shown(read(text), size), text)


if __name__ == "__main__":
    unittest.main()
