import unittest

from coinrows import errors
from coinrows.rows import after, allows, number_of, reply, turns, value
from reckoning import (
    RULES, SOME_RULES, assert_refused, endings, goes_by, numbers, order, row_games, row_value, subsets, turned,
)

FULL = list(range(40))
LONG_ROWS = ([39], [0, 39], [12, 13, 38], [1, 2, 5, 11, 20, 33], [36, 37, 38, 39], FULL)


def plain_turns(rule, heads, size):
    """Every list of rising places, kept where point 8 lets it, then put in the order of point 9."""
    return sorted((turn for turn in subsets(range(size)) if goes_by(rule, turn) and turn[-1] in heads), key=order)


def turns_of_long(rule, heads):
    return [list(turn) for place in heads for turn in endings(rule, place)]


class TurnsTest(unittest.TestCase):
    def test_written_lists(self):
        self.assertEqual(turns(("most", 1), [0, 3]), [[0], [3]])
        self.assertEqual(turns(("most", 2), [2]), [[2], [0, 2], [1, 2]])
        self.assertEqual(
            turns(("most", 3), [0, 3]),
            [[0], [3], [0, 3], [1, 3], [2, 3], [0, 1, 3], [0, 2, 3], [1, 2, 3]],
        )
        self.assertEqual(turns(("just", 1), [1, 4]), [[1], [4]])
        self.assertEqual(turns(("just", 2), [0, 1, 3]), [[0, 1], [0, 3], [1, 3], [2, 3]])
        self.assertEqual(
            turns(("just", 3), [1, 2, 4]),
            [[0, 1, 2], [0, 1, 4], [0, 2, 4], [0, 3, 4], [1, 2, 4], [1, 3, 4], [2, 3, 4]],
        )
        self.assertEqual(turns(("run", 3), [1, 4]), [[1], [0, 1], [4], [3, 4], [2, 3, 4]])
        self.assertEqual(turns(("run", 40), [2]), [[2], [1, 2], [0, 1, 2]])
        self.assertEqual(turns(("run", 1), [0, 39]), [[0], [39]])

    def test_the_empty_row_has_none(self):
        for rule in RULES:
            self.assertEqual(turns(rule, []), [])

    def test_small_rows_against_a_plain_listing(self):
        for rule in SOME_RULES:
            for heads in subsets(range(6)):
                self.assertEqual(turns(rule, heads), plain_turns(rule, heads, 6), (rule, heads))

    def test_single_heads_under_every_rule(self):
        for rule in RULES:
            for place in range(9):
                self.assertEqual(turns(rule, [place]), plain_turns(rule, [place], 9), (rule, place))

    def test_rows_with_places_up_to_39(self):
        for rule in RULES:
            for heads in LONG_ROWS:
                self.assertEqual(turns(rule, heads), turns_of_long(rule, heads), (rule, heads))

    def test_counts_of_a_full_row(self):
        self.assertEqual(len(turns(("most", 3), FULL)), 40 + 780 + 9880)
        self.assertEqual(len(turns(("just", 3), FULL)), 9880)
        self.assertEqual(len(turns(("run", 40), FULL)), 820)
        self.assertEqual(turns(("run", 40), FULL)[-1], FULL)


class AllowsAndAfterTest(unittest.TestCase):
    def assert_turn(self, rule, heads, turn, behind):
        with self.subTest(rule=rule, heads=heads, turn=turn):
            self.assertIs(allows(rule, heads, turn), True)
            self.assertEqual(after(rule, heads, turn), behind)

    def assert_no_turn(self, rule, heads, turn):
        with self.subTest(rule=rule, heads=heads, turn=turn):
            self.assertIs(allows(rule, heads, turn), False)
            assert_refused(self, errors.NoTurn, after, rule, heads, turn)

    def test_turns_that_are_let(self):
        self.assert_turn(("most", 1), [3, 5], [3], [5])
        self.assert_turn(("most", 2), [3, 5], [3, 5], [])
        self.assert_turn(("most", 2), [3, 5], [4, 5], [3, 4])
        self.assert_turn(("most", 3), [3, 5], [0, 3, 5], [0])
        self.assert_turn(("most", 3), [39], [0, 1, 39], [0, 1])
        self.assert_turn(("just", 1), [0, 39], [39], [0])
        self.assert_turn(("just", 2), [1, 7], [0, 1], [0, 7])
        self.assert_turn(("just", 3), [2, 7, 9], [1, 2, 9], [1, 7])
        self.assert_turn(("run", 1), [6], [6], [])
        self.assert_turn(("run", 4), [2, 4, 8], [1, 2, 3, 4], [1, 3, 8])
        self.assert_turn(("run", 40), FULL, FULL, [])
        self.assert_turn(("run", 40), [39], FULL, list(range(39)))
        self.assert_turn(("run", 3), [0], [0], [])

    def test_lists_that_are_no_turns_under_any_rule(self):
        heads = [0, 1, 2, 6, 38, 39]
        for rule in SOME_RULES:
            for turn in (
                [], [2, 2], [1, 1, 2], [2, 2, 2], [2, 1], [2, 1, 0], [1, 0, 2], [-1], [-1, 0], [-1, 0, 1], [-2, -1],
                [40], [39, 40], [38, 39, 40], [40, 39], [0, 40], [3], [2, 3], [1, 2, 3], [5], [4, 5], [-1, 2],
                [6, 0], [10 ** 5000], [-(10 ** 5000), 2], [41, 42, 43], list(range(41)), list(range(-1, 40)),
                list(range(39, -1, -1)), FULL + FULL,
            ):
                self.assert_no_turn(rule, heads, turn)

    def test_a_tail_at_the_last_place(self):
        for rule in SOME_RULES:
            for turn in ([4], [3, 4], [2, 3, 4], [0, 4], [0, 2, 4], [1, 2, 3, 4]):
                self.assert_no_turn(rule, [0, 1, 2, 3], turn)
                self.assert_no_turn(rule, [], turn)

    def test_too_long_and_too_short(self):
        self.assert_no_turn(("most", 1), [0, 1], [0, 1])
        self.assert_no_turn(("most", 2), [0, 1, 2], [0, 1, 2])
        self.assert_no_turn(("most", 3), [0, 1, 2, 3], [0, 1, 2, 3])
        self.assert_no_turn(("just", 1), [0, 1], [0, 1])
        self.assert_no_turn(("just", 2), [0, 1, 2], [2])
        self.assert_no_turn(("just", 2), [0, 1, 2], [0, 1, 2])
        self.assert_no_turn(("just", 3), [0, 1, 2, 3], [3])
        self.assert_no_turn(("just", 3), [0, 1, 2, 3], [2, 3])
        self.assert_no_turn(("just", 3), [0, 1, 2, 3], [0, 1, 2, 3])
        for k in range(1, 40):
            self.assert_turn(("run", k), FULL, FULL[:k], FULL[k:])
            self.assert_no_turn(("run", k), FULL, FULL[:k + 1])

    def test_runs_of_places_that_are_no_neighbours(self):
        for k in (2, 3, 4, 39, 40):
            for turn in ([0, 2], [0, 39], [0, 1, 3], [0, 2, 3], [0, 1, 2, 4, 5], FULL[:20] + FULL[21:]):
                self.assert_no_turn(("run", k), FULL, turn)

    def test_allowed_are_just_the_turns_that_are_told(self):
        for rule in SOME_RULES:
            for heads in ([], [0], [3], [1, 4], [0, 2, 3], [0, 1, 2, 3, 4]):
                told = turns(rule, heads)
                for turn in subsets(range(-1, 6)):
                    self.assertIs(allows(rule, heads, turn), turn in told, (rule, heads, turn))

    def test_after_turns_over_just_the_places_of_the_turn(self):
        for rule in SOME_RULES:
            for heads in subsets(range(5)) if rule[1] > 1 else LONG_ROWS:
                for turn in turns(rule, heads):
                    self.assertEqual(after(rule, heads, turn), turned(heads, turn), (rule, heads, turn))
        for turn in turns(("most", 3), [5, 20, 39])[::7]:
            self.assertEqual(after(("most", 3), [5, 20, 39], turn), turned([5, 20, 39], turn))


class NumbersTest(unittest.TestCase):
    def test_written_numbers(self):
        def first(rule, count):
            return [number_of(rule, place) for place in range(count)]

        self.assertEqual(first(("most", 1), 5), [1, 1, 1, 1, 1])
        self.assertEqual(first(("most", 2), 5), [1, 2, 3, 4, 5])
        self.assertEqual(first(("most", 3), 8), [1, 2, 4, 7, 8, 11, 13, 14])
        self.assertEqual(first(("just", 1), 3), [1, 1, 1])
        self.assertEqual(first(("just", 2), 5), [0, 1, 2, 3, 4])
        self.assertEqual(first(("just", 3), 8), [0, 0, 1, 2, 4, 7, 8, 11])
        self.assertEqual(first(("run", 1), 4), [1, 1, 1, 1])
        self.assertEqual(first(("run", 3), 8), [1, 2, 1, 2, 1, 2, 1, 2])
        self.assertEqual(first(("run", 40), 8), [1, 2, 1, 4, 1, 2, 1, 8])

    def test_every_place_under_every_rule_is_the_least_number(self):
        for rule in RULES:
            found = [number_of(rule, place) for place in range(40)]
            self.assertEqual(found, list(numbers(rule)), rule)
            self.assertTrue(all(number in range(65536) for number in found))

    def test_no_turn_to_a_place_means_nought_and_else_it_is_not(self):
        for rule in RULES:
            for place in range(40):
                self.assertEqual(number_of(rule, place) == 0, turns(rule, [place]) == [])

    def test_value_of_small_rows_is_the_least_number_of_the_whole_game(self):
        for rule in SOME_RULES:
            games = row_games(rule, 8)
            for heads in subsets(range(8)):
                self.assertEqual(value(rule, heads), games[sum(1 << place for place in heads)], (rule, heads))

    def test_value_is_the_sum_of_the_numbers(self):
        for rule in RULES:
            self.assertEqual(value(rule, []), 0)
            for heads in LONG_ROWS + (list(range(0, 40, 3)), list(range(1, 40, 2)), [7, 8, 9, 30, 31]):
                self.assertEqual(value(rule, heads), row_value(rule, heads), (rule, heads))
            for place in range(40):
                self.assertEqual(value(rule, [place]), number_of(rule, place))

    def test_answers_are_whole_numbers(self):
        for rule in RULES:
            for answer in (number_of(rule, 0), number_of(rule, 39), value(rule, []), value(rule, FULL)):
                self.assertIs(type(answer), int)


class ReplyTest(unittest.TestCase):
    def assert_first(self, rule, heads):
        found = reply(rule, heads)
        if row_value(rule, heads) == 0:
            self.assertIsNone(found, (rule, heads))
            return
        leading = (turn for turn in turns_of_long(rule, heads) if row_value(rule, turned(heads, turn)) == 0)
        self.assertEqual(found, next(leading), (rule, heads))

    def test_written_replies(self):
        self.assertIsNone(reply(("most", 2), []))
        self.assertIsNone(reply(("most", 1), [3, 4]))
        self.assertEqual(reply(("most", 1), [3, 4, 9]), [3])
        self.assertEqual(reply(("most", 2), [4]), [4])
        self.assertEqual(reply(("most", 2), [2, 4]), [2, 4])
        self.assertEqual(reply(("most", 2), [0, 1, 4]), [2, 4])
        self.assertIsNone(reply(("just", 2), [0]))
        self.assertEqual(reply(("just", 2), [0, 3]), [0, 3])
        self.assertIsNone(reply(("just", 3), [0, 1]))
        self.assertEqual(reply(("run", 40), [39]), [39])
        self.assertEqual(reply(("run", 2), [0, 1]), [0, 1])

    def test_small_rows(self):
        for rule in SOME_RULES:
            for heads in subsets(range(7)):
                self.assert_first(rule, heads)

    def test_rows_with_places_up_to_39(self):
        for rule in RULES:
            for heads in LONG_ROWS + ([2, 9, 17, 39], [38, 39], [0, 1, 2, 3, 31], [15, 31, 35, 39]):
                self.assert_first(rule, heads)

    def test_it_is_the_first_of_turns_in_the_programs_own_words(self):
        for rule in SOME_RULES:
            for heads in ([3, 6], [0, 2, 5, 9], [1, 2, 3, 11], [17]):
                leading = [turn for turn in turns(rule, heads) if value(rule, after(rule, heads, turn)) == 0]
                if value(rule, heads) == 0:
                    self.assertEqual(leading, [])
                    self.assertIsNone(reply(rule, heads))
                else:
                    self.assertEqual(reply(rule, heads), leading[0])

    def test_whoever_follows_the_replies_takes_the_last_turn_whatever_the_other_does(self):
        for rule in SOME_RULES:
            won = set()

            def follow(heads):
                behind = after(rule, heads, reply(rule, heads))
                if tuple(behind) in won:
                    return
                won.add(tuple(behind))
                for turn in turns(rule, behind):
                    follow(after(rule, behind, turn))

            for heads in subsets(range(6)):
                if value(rule, heads) != 0:
                    follow(heads)

    def test_long_games(self):
        for rule in SOME_RULES:
            for start in ([35], [4, 17, 29], [3, 8, 21, 22, 39]):
                heads = start
                if value(rule, heads) == 0:
                    heads = after(rule, heads, turns(rule, heads)[0])
                for step in range(1, 200):
                    heads = after(rule, heads, reply(rule, heads))
                    others = turns(rule, heads)
                    if not others:
                        break
                    heads = after(rule, heads, others[step * 37 % len(others)])
                self.assertEqual(turns(rule, heads), [], (rule, start))


if __name__ == "__main__":
    unittest.main()
