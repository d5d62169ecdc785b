import itertools
import unittest

from coinrows import errors
from coinrows.boards import board_after, board_allows, board_number, board_reply, board_value
from coinrows.field import times
from coinrows.rows import number_of
from reckoning import (
    SMALL_RULES, SOME_RULES, assert_refused, bits, board_endings, board_games, crossed, endings, goes_by,
    least_missing, numbers, subsets, total, turned,
)
from reckoning import board_value as plain_value

FULL = crossed(range(16), range(16))
SIDE = list(range(16))
LONG_BOARDS = (
    [(15, 15)], [(0, 15), (15, 0)], [(3, 4), (3, 9), (12, 1)], [(0, 0), (7, 15), (8, 15), (15, 2)],
    [(2, 2), (5, 5), (11, 11), (13, 3)],
)
# Two of each kind: the pairs of these are pairs of all kinds, and of a kind with itself.
PAIRED = (("most", 2), ("most", 3), ("just", 2), ("just", 3), ("run", 3), ("run", 40))


def pairs(rules):
    return itertools.product(rules, rules)


def plain_reply(rule_x, rule_y, heads):
    goal = plain_value(rule_x, rule_y, heads)
    if goal == 0:
        return None
    for x, y in heads:
        for xs, ys in board_endings(rule_x, rule_y, x, y):
            if plain_value(rule_x, rule_y, crossed(xs, ys)) == goal:
                return (xs, ys)
    raise AssertionError("no turn leads to nought")


def all_turns(rule_x, rule_y, heads):
    return [turn for x, y in heads for turn in board_endings(rule_x, rule_y, x, y)]


class AllowsAndAfterTest(unittest.TestCase):
    def assert_turn(self, rule_x, rule_y, heads, xs, ys, behind):
        with self.subTest(rule_x=rule_x, rule_y=rule_y, heads=heads, xs=xs, ys=ys):
            self.assertIs(board_allows(rule_x, rule_y, heads, xs, ys), True)
            self.assertEqual(board_after(rule_x, rule_y, heads, xs, ys), behind)

    def assert_no_turn(self, rule_x, rule_y, heads, xs, ys):
        with self.subTest(rule_x=rule_x, rule_y=rule_y, heads=heads, xs=xs, ys=ys):
            self.assertIs(board_allows(rule_x, rule_y, heads, xs, ys), False)
            assert_refused(self, errors.NoTurn, board_after, rule_x, rule_y, heads, xs, ys)

    def test_turns_that_are_let(self):
        self.assert_turn(("most", 1), ("most", 1), [(3, 4)], [3], [4], [])
        self.assert_turn(("most", 2), ("most", 2), [(3, 4)], [1, 3], [2, 4], [(1, 2), (1, 4), (3, 2)])
        self.assert_turn(("most", 2), ("run", 2), [(0, 3), (2, 3), (5, 0)], [0, 2], [2, 3], [(0, 2), (2, 2), (5, 0)])
        self.assert_turn(("just", 1), ("just", 3), [(15, 15)], [15], [0, 7, 15], [(15, 0), (15, 7)])
        self.assert_turn(("run", 40), ("just", 1), [(2, 9), (4, 9)], [1, 2, 3, 4], [9], [(1, 9), (3, 9)])
        self.assert_turn(("run", 40), ("run", 16), FULL, SIDE, SIDE, [])
        self.assert_turn(("run", 16), ("run", 40), [(15, 15)], SIDE, SIDE, FULL[:-1])

    def test_the_two_rules_are_not_mixed_up(self):
        self.assert_turn(("most", 2), ("most", 1), [(3, 3)], [1, 3], [3], [(1, 3)])
        self.assert_no_turn(("most", 1), ("most", 2), [(3, 3)], [1, 3], [3])
        self.assert_turn(("most", 1), ("most", 2), [(3, 3)], [3], [1, 3], [(3, 1)])
        self.assert_no_turn(("most", 2), ("most", 1), [(3, 3)], [3], [1, 3])
        self.assert_no_turn(("most", 1), ("most", 1), [(3, 5)], [5], [3])

    def test_lists_that_are_no_turns(self):
        for rule_x, rule_y in pairs(SOME_RULES):
            good_x = endings(rule_x, 2)[0]
            good_y = endings(rule_y, 2)[0]
            for wrong in (
                [], [2, 2], [1, 1, 2], [2, 1], [2, 1, 0], [1, 0, 2], [-1], [-1, 2], [-1, 0, 1, 2], [16], [15, 16],
                [14, 15, 16], [0, 16], [2, 39], [39], [40], [10 ** 5000], [-(10 ** 5000), 2], list(range(17)),
                [3], [2, 3], [1, 2, 3], SIDE + SIDE,
            ):
                self.assertIs(board_allows(rule_x, rule_y, FULL[:48], wrong, list(good_y)), False, (rule_x, wrong))
                self.assertIs(board_allows(rule_x, rule_y, [(2, 2)], list(good_x), wrong), False, (rule_y, wrong))
                self.assertIs(board_allows(rule_x, rule_y, FULL[:48], wrong, wrong), False, (rule_x, wrong))
                assert_refused(self, errors.NoTurn, board_after, rule_x, rule_y, FULL[:48], wrong, list(good_y))
                assert_refused(self, errors.NoTurn, board_after, rule_x, rule_y, [(2, 2)], list(good_x), wrong)

    def test_places_above_15_are_no_turn_though_a_row_has_them(self):
        for k in (1, 3):
            for wrong in ([16], [16, 17, 18][:k], [15, 16], [39]):
                self.assert_no_turn(("most", k), ("most", 3), FULL, wrong, [15])
                self.assert_no_turn(("most", 3), ("run", k), FULL, [15], wrong)

    def test_a_tail_at_the_last_place(self):
        for heads in ([], [(3, 4)], [(4, 3)], [(2, 4), (3, 3), (3, 5), (4, 5), (5, 4), (15, 15)]):
            self.assert_no_turn(("most", 3), ("most", 3), heads, [4], [4])
            self.assert_no_turn(("run", 3), ("run", 3), heads, [3, 4], [3, 4])
            self.assert_no_turn(("just", 2), ("just", 2), heads, [3, 4], [3, 4])

    def test_too_long_too_short_and_no_neighbours(self):
        self.assert_no_turn(("just", 2), ("most", 1), FULL, [3], [3])
        self.assert_no_turn(("most", 1), ("just", 3), FULL, [3], [2, 3])
        self.assert_no_turn(("most", 3), ("most", 1), FULL, [0, 1, 2, 3], [3])
        self.assert_no_turn(("most", 1), ("most", 3), FULL, [3], [0, 1, 2, 3])
        self.assert_no_turn(("run", 15), ("run", 40), FULL, SIDE, [0])
        self.assert_no_turn(("run", 40), ("run", 15), FULL, [0], SIDE)
        self.assert_no_turn(("run", 40), ("run", 40), FULL, [0, 2], [0])
        self.assert_no_turn(("run", 40), ("run", 40), FULL, [0], [0, 1, 3])

    def test_allowed_are_just_the_turns_of_the_point_and_after_turns_them_over(self):
        heads = [(0, 1), (1, 2), (2, 0), (2, 2)]
        for rule_x, rule_y in pairs(SMALL_RULES):
            for xs in subsets(range(4)):
                for ys in subsets(range(4)):
                    let = goes_by(rule_x, xs) and goes_by(rule_y, ys) and (xs[-1], ys[-1]) in heads
                    self.assertIs(board_allows(rule_x, rule_y, heads, xs, ys), let, (rule_x, rule_y, xs, ys))
                    if let:
                        behind = board_after(rule_x, rule_y, heads, xs, ys)
                        self.assertEqual(behind, turned(heads, crossed(xs, ys)))


class NumbersTest(unittest.TestCase):
    def test_written_numbers(self):
        self.assertEqual(board_number(("most", 1), ("most", 1), 15, 0), 1)
        self.assertEqual(board_number(("most", 2), ("most", 2), 1, 1), 3)
        self.assertEqual(board_number(("most", 2), ("most", 2), 3, 3), 6)
        self.assertEqual(board_number(("most", 2), ("most", 2), 15, 15), 24)
        self.assertEqual(board_number(("most", 2), ("run", 40), 1, 3), 8)
        self.assertEqual(board_number(("just", 2), ("most", 2), 0, 5), 0)
        self.assertEqual(board_number(("just", 2), ("most", 3), 2, 1), 3)

    def test_numbers_are_products(self):
        for rule_x, rule_y in pairs(SOME_RULES):
            for x in (0, 1, 2, 7, 14, 15):
                for y in (0, 1, 3, 8, 15):
                    answer = board_number(rule_x, rule_y, x, y)
                    self.assertEqual(answer, times(number_of(rule_x, x), number_of(rule_y, y)))
                    self.assertEqual(answer, times(numbers(rule_x)[x], numbers(rule_y)[y]))
                    self.assertIn(answer, range(65536))

    def assert_least(self, rule_x, rule_y, x, y, table):
        reached = {
            total(table[place] for place in crossed(xs, ys) if place != (x, y))
            for xs, ys in board_endings(rule_x, rule_y, x, y)
        }
        self.assertEqual(table[x, y], least_missing(reached), (rule_x, rule_y, x, y))

    def test_numbers_are_the_least_that_no_turn_leads_to(self):
        for rule_x, rule_y in pairs(PAIRED):
            table = {(x, y): board_number(rule_x, rule_y, x, y) for x, y in FULL}
            for x, y in crossed(range(6), range(6)):
                self.assert_least(rule_x, rule_y, x, y, table)
            self.assert_least(rule_x, rule_y, 15, 2, table)
            self.assert_least(rule_x, rule_y, 3, 15, table)

    def test_the_last_place_of_the_board(self):
        for rule_x, rule_y in ((("most", 3), ("most", 2)), (("run", 40), ("just", 3)), (("just", 2), ("run", 9))):
            table = {(x, y): board_number(rule_x, rule_y, x, y) for x, y in FULL}
            self.assert_least(rule_x, rule_y, 15, 15, table)

    def test_value_of_small_boards_is_the_least_number_of_the_whole_game(self):
        for rule_x, rule_y in pairs(SMALL_RULES):
            games = board_games(rule_x, rule_y, 3, 3)
            for heads in list(subsets(crossed(range(3), range(3))))[::3]:
                self.assertEqual(board_value(rule_x, rule_y, heads), games[bits(heads, 3)], (rule_x, rule_y, heads))

    def test_value_is_the_sum_of_the_numbers(self):
        for rule_x, rule_y in pairs(SOME_RULES):
            self.assertEqual(board_value(rule_x, rule_y, []), 0)
            for heads in LONG_BOARDS + (FULL[::5],):
                answer = board_value(rule_x, rule_y, heads)
                self.assertEqual(answer, plain_value(rule_x, rule_y, heads))
                self.assertEqual(answer, total(board_number(rule_x, rule_y, x, y) for x, y in heads))

    def test_answers_are_whole_numbers(self):
        for rule_x, rule_y in pairs(SOME_RULES):
            self.assertIs(type(board_number(rule_x, rule_y, 0, 15)), int)
            self.assertIs(type(board_value(rule_x, rule_y, [])), int)
            self.assertIs(type(board_value(rule_x, rule_y, [(0, 1), (2, 2)])), int)


class ReplyTest(unittest.TestCase):
    def test_written_replies(self):
        self.assertIsNone(board_reply(("most", 2), ("most", 2), []))
        self.assertIsNone(board_reply(("just", 2), ("most", 2), [(0, 5)]))
        self.assertEqual(board_reply(("most", 2), ("most", 2), [(1, 1)]), ([1], [1]))
        self.assertEqual(board_reply(("just", 2), ("just", 2), [(1, 1)]), ([0, 1], [0, 1]))
        self.assertEqual(board_reply(("most", 2), ("most", 1), [(0, 0), (2, 0)]), ([0, 2], [0]))
        self.assertEqual(board_reply(("most", 1), ("most", 2), [(0, 0), (0, 2)]), ([0], [0, 2]))

    def test_small_boards_by_the_whole_game(self):
        boards = list(subsets(crossed(range(3), range(3))))[::5]
        for rule_x, rule_y in pairs(SMALL_RULES):
            games = board_games(rule_x, rule_y, 3, 3)
            for heads in boards:
                leading = (
                    (xs, ys) for xs, ys in all_turns(rule_x, rule_y, heads)
                    if games[bits(turned(heads, crossed(xs, ys)), 3)] == 0
                )
                found = board_reply(rule_x, rule_y, heads)
                self.assertEqual(found, next(leading, None), (rule_x, rule_y, heads))
                self.assertEqual(found is None, games[bits(heads, 3)] == 0)

    def test_boards_with_places_up_to_15(self):
        for rule_x, rule_y in pairs(PAIRED):
            for heads in LONG_BOARDS:
                found = board_reply(rule_x, rule_y, heads)
                self.assertEqual(found, plain_reply(rule_x, rule_y, heads), (rule_x, rule_y, heads))

    def test_a_reply_that_needs_the_last_head_of_many(self):
        rule = ("most", 2)
        heads = [place for place in FULL if place[0] < 2 and place[1] < 2] + [(15, 15)]
        self.assertEqual(board_reply(rule, rule, heads), plain_reply(rule, rule, heads))
        self.assertEqual((board_reply(rule, rule, heads)[0][-1], board_reply(rule, rule, heads)[1][-1]), (15, 15))

    def test_the_kinds_of_the_answer(self):
        found = board_reply(("most", 3), ("run", 3), [(4, 5), (9, 9)])
        self.assertIs(type(found), tuple)
        self.assertEqual([type(part) for part in found], [list, list])

    def test_whoever_follows_the_replies_takes_the_last_turn_whatever_the_other_does(self):
        boards = list(subsets(crossed(range(2), range(3))))
        for rule_x, rule_y in pairs(SMALL_RULES):
            won = set()

            def follow(heads):
                behind = board_after(rule_x, rule_y, heads, *board_reply(rule_x, rule_y, heads))
                if tuple(behind) in won:
                    return
                won.add(tuple(behind))
                for xs, ys in all_turns(rule_x, rule_y, behind):
                    follow(board_after(rule_x, rule_y, behind, xs, ys))

            for heads in boards:
                if board_value(rule_x, rule_y, heads) != 0:
                    follow(heads)

    def test_long_games(self):
        for rule_x, rule_y in pairs(PAIRED):
            heads = [(2, 3), (4, 4), (5, 2)]
            if board_value(rule_x, rule_y, heads) == 0:
                heads = [(4, 4)]
            for step in range(1, 1000):
                heads = board_after(rule_x, rule_y, heads, *board_reply(rule_x, rule_y, heads))
                others = all_turns(rule_x, rule_y, heads)
                if not others:
                    break
                heads = board_after(rule_x, rule_y, heads, *others[step * 37 % len(others)])
            self.assertEqual(all_turns(rule_x, rule_y, heads), [], (rule_x, rule_y))


if __name__ == "__main__":
    unittest.main()
