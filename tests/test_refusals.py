"""Which rules, rows and boards there are, and which refusal comes first where several are due."""

import unittest

from coinrows import errors
from coinrows.boards import board_after, board_allows, board_number, board_reply, board_value
from coinrows.rows import after, allows, number_of, reply, turns, value
from reckoning import (
    RULES, SOME_RULES, WRONG_BOARD_PLACES, WRONG_BOARDS, WRONG_PLACES, WRONG_ROWS, WRONG_RULES, assert_refused,
)

GOOD = ("most", 2)
NO_TURNS = ([], [0, 0], [-1], [40], [0, 1, 2, 3, 4], [5])


def asks_of_row(rule, heads):
    """Every call that takes a rule and a row, those with a turn also with lists that are none."""
    found = [(turns, rule, heads), (value, rule, heads), (reply, rule, heads)]
    for turn in NO_TURNS + (list(heads), list(heads[-1:])):
        found.append((allows, rule, heads, turn))
        found.append((after, rule, heads, turn))
    return found


def asks_of_board(rule_x, rule_y, heads):
    found = [(board_value, rule_x, rule_y, heads), (board_reply, rule_x, rule_y, heads)]
    for xs in NO_TURNS + ([2],):
        for ys in ([], [16], [2]):
            found.append((board_allows, rule_x, rule_y, heads, xs, ys))
            found.append((board_after, rule_x, rule_y, heads, xs, ys))
    return found


class RuleTest(unittest.TestCase):
    def test_every_rule_is_taken(self):
        for rule in RULES:
            turns(rule, [0, 5])
            value(rule, [39])
            number_of(rule, 0)
            reply(rule, [1])
            self.assertIs(allows(rule, [3], []), False)
            board_value(rule, rule, [(1, 1)])

    def test_other_words_and_other_k_for_rows(self):
        for rule in WRONG_RULES:
            for heads in ([], [0], [2, 39]):
                for ask in asks_of_row(rule, heads):
                    assert_refused(self, errors.NoRule, *ask)
            assert_refused(self, errors.NoRule, number_of, rule, 0)

    def test_either_rule_of_a_board(self):
        for rule in WRONG_RULES:
            for rule_x, rule_y in ((rule, GOOD), (GOOD, rule), (rule, rule)):
                for heads in ([], [(2, 2)]):
                    for ask in asks_of_board(rule_x, rule_y, heads):
                        assert_refused(self, errors.NoRule, *ask)
                assert_refused(self, errors.NoRule, board_number, rule_x, rule_y, 0, 0)

    def test_no_rule_comes_ahead_of_no_row_and_no_turn(self):
        for rule in WRONG_RULES:
            for heads in WRONG_ROWS:
                for ask in asks_of_row(rule, heads):
                    assert_refused(self, errors.NoRule, *ask)
            for place in WRONG_PLACES:
                assert_refused(self, errors.NoRule, number_of, rule, place)

    def test_no_rule_comes_ahead_of_no_board_and_no_turn(self):
        for rule in WRONG_RULES[::5]:
            for rule_x, rule_y in ((rule, GOOD), (GOOD, rule)):
                for heads in WRONG_BOARDS:
                    for ask in asks_of_board(rule_x, rule_y, heads):
                        assert_refused(self, errors.NoRule, *ask)
                for x, y in WRONG_BOARD_PLACES:
                    assert_refused(self, errors.NoRule, board_number, rule_x, rule_y, x, y)


class RowTest(unittest.TestCase):
    def test_rows_are_taken(self):
        for rule in SOME_RULES:
            for heads in ([], [0], [39], [0, 39], list(range(40))):
                self.assertIs(type(value(rule, heads)), int)
                self.assertIs(type(turns(rule, heads)), list)
                self.assertIs(allows(rule, heads, [-1]), False)
                reply(rule, heads)

    def test_lists_that_are_no_rows(self):
        for rule in SOME_RULES:
            for heads in WRONG_ROWS:
                for ask in asks_of_row(rule, heads):
                    assert_refused(self, errors.NoRow, *ask)

    def test_places_that_are_none(self):
        for rule in RULES:
            for place in WRONG_PLACES:
                assert_refused(self, errors.NoRow, number_of, rule, place)
            number_of(rule, 0)
            number_of(rule, 39)

    def test_the_empty_row_has_no_turn(self):
        for rule in SOME_RULES:
            for turn in ([], [0], [0, 1], [39]):
                assert_refused(self, errors.NoTurn, after, rule, [], turn)


class BoardTest(unittest.TestCase):
    def test_boards_are_taken(self):
        full = [(x, y) for x in range(16) for y in range(16)]
        for rule in SOME_RULES:
            for heads in ([], [(0, 0)], [(15, 15)], [(0, 15), (1, 0)], [(0, 0), (0, 1)], full):
                self.assertIs(type(board_value(rule, GOOD, heads)), int)
                self.assertIs(board_allows(rule, GOOD, heads, [-1], [0]), False)
        self.assertIsNone(board_reply(GOOD, GOOD, []))

    def test_lists_that_are_no_boards(self):
        for rule in SOME_RULES:
            for heads in WRONG_BOARDS:
                for ask in asks_of_board(rule, GOOD, heads) + asks_of_board(GOOD, rule, heads):
                    assert_refused(self, errors.NoBoard, *ask)

    def test_places_that_are_none(self):
        for rule in RULES:
            for x, y in WRONG_BOARD_PLACES:
                assert_refused(self, errors.NoBoard, board_number, rule, GOOD, x, y)
                assert_refused(self, errors.NoBoard, board_number, GOOD, rule, x, y)
            for x, y in ((0, 0), (0, 15), (15, 0), (15, 15)):
                board_number(rule, GOOD, x, y)

    def test_the_empty_board_has_no_turn(self):
        for rule in SOME_RULES:
            for xs, ys in (([], []), ([0], [0]), ([0, 1], [0, 1]), ([15], [15])):
                assert_refused(self, errors.NoTurn, board_after, rule, GOOD, [], xs, ys)


if __name__ == "__main__":
    unittest.main()
