import copy
import unittest

from coinrows import errors, field
from coinrows.field import summed, times

BASES = (2, 4, 16, 256)
POWERS = tuple(1 << k for k in range(16))
# Edges of the bases, and numbers whose high and low parts differ at every base.
BELOW_256 = (0, 1, 2, 3, 5, 15, 16, 17, 30, 64, 100, 127, 128, 171, 240, 254, 255)
UP_TO_65535 = (0, 1, 2, 13, 77, 255, 256, 257, 384, 4097, 12345, 23130, 32768, 43981, 54321, 65280, 65534, 65535)
TOO_LITTLE = (-1, -2, -256, -65535, -65536, -(10 ** 12), -(10 ** 5000))
TOO_GREAT = (65536, 65537, 65792, 131072, 10 ** 12, 10 ** 5000)


def figures(number):
    return [k for k in range(16) if number >> k & 1]


def bases_product(bases):
    """The product of these bases, by the rules of point 4 alone: a list of bases in
    which none stands twice is a usual product, and one that stands twice gives way to
    the sum of itself and its half (the half is the product of all lesser bases)."""
    for place, base in enumerate(BASES):
        if bases.count(base) > 1:
            rest = list(bases)
            rest.remove(base)
            rest.remove(base)
            return bases_product(rest + [base]) ^ bases_product(rest + list(BASES[:place]))
    usual = 1
    for base in bases:
        usual *= base
    return usual


def bases_of(k):
    return [base for place, base in enumerate(BASES) if k >> place & 1]


def power_products():
    return {
        (j, k): bases_product(bases_of(j) + bases_of(k))
        for j in range(16) for k in range(16)
    }


def product_by_powers(table, one, two):
    answer = 0
    for j in figures(one):
        for k in figures(two):
            answer ^= table[j, k]
    return answer


def least_products(rows, columns):
    """The table of point 5, built from nothing but the sentence itself."""
    table = [[0] * columns for a in range(rows)]
    for a in range(rows):
        for b in range(columns):
            taken = {table[c][b] ^ table[a][d] ^ table[c][d] for c in range(a) for d in range(b)}
            least = 0
            while least in taken:
                least += 1
            table[a][b] = least
    return table


class RefusalTest(unittest.TestCase):
    def assert_refused(self, call, one, two):
        with self.assertRaises(errors.NoNumber) as caught:
            call(one, two)
        self.assertIs(type(caught.exception), errors.NoNumber)

    def test_wrong_numbers_in_the_first_place(self):
        for call in (summed, times):
            for wrong in TOO_LITTLE + TOO_GREAT:
                for right in (0, 1, 7, 65535):
                    self.assert_refused(call, wrong, right)

    def test_wrong_numbers_in_the_second_place(self):
        for call in (summed, times):
            for wrong in TOO_LITTLE + TOO_GREAT:
                for right in (0, 1, 7, 65535):
                    self.assert_refused(call, right, wrong)

    def test_wrong_numbers_in_both_places(self):
        for call in (summed, times):
            for one in TOO_LITTLE + TOO_GREAT:
                for two in TOO_LITTLE + TOO_GREAT:
                    self.assert_refused(call, one, two)

    def test_the_refusal_is_a_coin_error_and_a_value_error_and_no_other_kind(self):
        others = (errors.NoRule, errors.NoRow, errors.NoTurn, errors.NoBoard, errors.NoNote)
        for call in (summed, times):
            for one, two in ((-1, 0), (0, -1), (65536, 0), (0, 65536), (-1, 65536)):
                with self.subTest(call=call.__name__, one=one, two=two):
                    with self.assertRaises(errors.NoNumber) as caught:
                        call(one, two)
                    self.assertIsInstance(caught.exception, errors.CoinError)
                    self.assertIsInstance(caught.exception, ValueError)
                    self.assertNotIsInstance(caught.exception, others)

    def test_the_edges_are_not_refused(self):
        self.assertEqual(summed(0, 0), 0)
        self.assertEqual(summed(0, 65535), 65535)
        self.assertEqual(summed(65535, 0), 65535)
        self.assertEqual(summed(65535, 65535), 0)
        self.assertEqual(times(0, 0), 0)
        self.assertEqual(times(0, 65535), 0)
        self.assertEqual(times(65535, 0), 0)
        self.assertIn(times(65535, 65535), range(1, 65536))


class SumTest(unittest.TestCase):
    def test_ordinary_numbers(self):
        for one, two, answer in (
            (1, 2, 3), (1, 3, 2), (5, 3, 6), (6, 3, 5), (12, 10, 6), (255, 256, 511),
            (21845, 43690, 65535), (40000, 30000, 59760), (384, 256, 128),
        ):
            with self.subTest(one=one, two=two):
                self.assertEqual(summed(one, two), answer)
                self.assertEqual(summed(two, one), answer)

    def test_figure_by_figure(self):
        for one in UP_TO_65535 + POWERS:
            for two in UP_TO_65535 + POWERS:
                answer = summed(one, two)
                for k in range(16):
                    self.assertEqual(k in figures(answer), (k in figures(one)) != (k in figures(two)))
                self.assertIn(answer, range(65536))

    def test_with_itself_with_nought_and_with_the_greatest(self):
        for number in range(65536):
            self.assertEqual(summed(number, number), 0)
            self.assertEqual(summed(number, 0), number)
            self.assertEqual(summed(0, number), number)
            self.assertEqual(summed(number, 65535), 65535 - number)
            self.assertEqual(summed(65535, number), 65535 - number)


class ProductTest(unittest.TestCase):
    def test_nought_and_one(self):
        for number in range(65536):
            self.assertEqual(times(0, number), 0)
            self.assertEqual(times(number, 0), 0)
            self.assertEqual(times(1, number), number)
            self.assertEqual(times(number, 1), number)

    def test_a_base_with_lesser_numbers_is_the_usual_product(self):
        for base in BASES:
            for number in range(base):
                with self.subTest(base=base, number=number):
                    self.assertEqual(times(base, number), base * number)
                    self.assertEqual(times(number, base), base * number)

    def test_a_base_with_itself(self):
        self.assertEqual(times(2, 2), 3)
        self.assertEqual(times(4, 4), 6)
        self.assertEqual(times(16, 16), 24)
        self.assertEqual(times(256, 256), 384)

    def test_written_products(self):
        for one, answers in (
            (2, (0, 2, 3, 1, 8, 10, 11, 9, 12, 14, 15, 13, 4, 6, 7, 5)),
            (4, (0, 4, 8, 12, 6, 2, 14, 10, 11, 15, 3, 7, 13, 9, 5, 1)),
            (15, (0, 15, 5, 10, 1, 14, 4, 11, 2, 13, 7, 8, 3, 12, 6, 9)),
        ):
            self.assertEqual(tuple(times(one, two) for two in range(16)), answers)

    def test_products_drawn_from_the_bases_alone(self):
        table = power_products()
        for one in UP_TO_65535 + BELOW_256 + POWERS:
            for two in UP_TO_65535 + BELOW_256 + POWERS:
                with self.subTest(one=one, two=two):
                    self.assertEqual(times(one, two), product_by_powers(table, one, two))

    def test_every_answer_is_a_number_of_the_field(self):
        for number in range(0, 65536, 97):
            self.assertIn(times(number, 65535 - number), range(65536))
            self.assertIn(times(number, number), range(65536))


class ProductRulesTest(unittest.TestCase):
    def assert_order(self, numbers):
        for one in numbers:
            for two in numbers:
                self.assertEqual(times(one, two), times(two, one))

    def assert_brackets(self, numbers):
        for one in numbers:
            for two in numbers:
                ahead = times(one, two)
                for three in numbers:
                    self.assertEqual(times(ahead, three), times(one, times(two, three)))

    def assert_sums(self, numbers):
        for one in numbers:
            for two in numbers:
                for three in numbers:
                    answer = summed(times(one, two), times(one, three))
                    self.assertEqual(times(one, summed(two, three)), answer)
                    self.assertEqual(times(summed(two, three), one), answer)

    def test_order_of_two(self):
        for numbers in (range(16), range(0, 256, 3), BELOW_256, UP_TO_65535 + POWERS):
            self.assert_order(numbers)

    def test_brackets_of_three(self):
        for numbers in (range(16), BELOW_256, UP_TO_65535, POWERS):
            self.assert_brackets(numbers)

    def test_product_with_a_sum(self):
        for numbers in (range(16), BELOW_256, UP_TO_65535):
            self.assert_sums(numbers)

    def test_a_product_is_the_sum_of_the_products_with_its_figures(self):
        for one in UP_TO_65535:
            for two in range(0, 65536, 641):
                answer = 0
                for k in figures(two):
                    answer = summed(answer, times(one, 1 << k))
                self.assertEqual(times(one, two), answer)


class LeastNumberTest(unittest.TestCase):
    def assert_least(self, rows, columns):
        table = least_products(rows, columns)
        for a in range(rows):
            for b in range(columns):
                self.assertEqual(times(a, b), table[a][b])
                self.assertEqual(times(b, a), table[a][b])

    def test_small_numbers(self):
        self.assert_least(34, 34)

    def test_small_with_numbers_beyond_the_greatest_base(self):
        self.assert_least(6, 270)

    def test_the_sentence_in_the_programs_own_words(self):
        for a in range(18):
            for b in range(18):
                taken = {
                    summed(summed(times(c, b), times(a, d)), times(c, d))
                    for c in range(a) for d in range(b)
                }
                answer = times(a, b)
                self.assertNotIn(answer, taken)
                self.assertTrue(set(range(answer)) <= taken)


class PlainCallTest(unittest.TestCase):
    def test_arguments_bear_the_names_of_the_interface(self):
        self.assertEqual(summed(one=6, two=3), 5)
        self.assertEqual(times(one=4, two=5), 2)

    def test_answers_are_whole_numbers(self):
        for call in (summed, times):
            for one in (0, 1, 2, 65535):
                for two in (0, 1, 2, 65535):
                    self.assertIs(type(call(one, two)), int)

    def test_nothing_is_kept_from_call_to_call(self):
        def held():
            return {
                name: copy.deepcopy(value) for name, value in vars(field).items()
                if not name.startswith("__") and not callable(value)
            }

        before = held()
        first = [times(one, two) for one in UP_TO_65535 for two in UP_TO_65535]
        with self.assertRaises(errors.NoNumber):
            times(65536, 2)
        second = [times(one, two) for one in reversed(UP_TO_65535) for two in reversed(UP_TO_65535)]
        self.assertEqual(first, second[::-1])
        self.assertEqual(held(), before)


if __name__ == "__main__":
    unittest.main()
