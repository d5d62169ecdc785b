"""Boards of coins: their turns, their numbers and the reply to them."""

from coinrows.errors import NoTurn
from coinrows.field import summed, times
from coinrows.rows import number_of, sum_of_numbers, turns_ending
from coinrows.shapes import GREATEST_BOARD_PLACE, check_board, check_board_place, check_rule, fits


def board_allows(rule_x, rule_y, heads, xs, ys):
    check_rule(rule_x)
    check_rule(rule_y)
    check_board(heads)
    if not fits(rule_x, xs, GREATEST_BOARD_PLACE) or not fits(rule_y, ys, GREATEST_BOARD_PLACE):
        return False
    return (xs[-1], ys[-1]) in heads


def board_after(rule_x, rule_y, heads, xs, ys):
    if not board_allows(rule_x, rule_y, heads, xs, ys):
        raise NoTurn("this is no turn of the board")
    turned = []
    for x in xs:
        turned.extend([(x, y) for y in ys])
    return sorted(set(heads) ^ set(turned))


def board_number(rule_x, rule_y, x, y):
    check_rule(rule_x)
    check_rule(rule_y)
    check_board_place(x, y)
    return times(number_of(rule_x, x), number_of(rule_y, y))


def board_value(rule_x, rule_y, heads):
    check_rule(rule_x)
    check_rule(rule_y)
    check_board(heads)
    total = 0
    for x, y in heads:
        total = summed(total, board_number(rule_x, rule_y, x, y))
    return total


def board_reply(rule_x, rule_y, heads):
    goal = board_value(rule_x, rule_y, heads)
    products = {}
    # A turn's own sum is never nought, as in a row, so none is found where the goal is nought.
    for x, y in heads:
        found = first_adding(goal, turns_with_sums(rule_x, x), turns_with_sums(rule_y, y), products)
        if found is not None:
            return found
    return None


def turns_with_sums(rule, place):
    return [(turn, sum_of_numbers(rule, turn)) for turn in turns_ending(rule, place)]


# A turn adds the numbers of all its places to the value. As the product of a number and a
# sum is the sum of the products, that is the product of the sum of xs and the sum of ys.
def first_adding(goal, x_turns, y_turns, products):
    for xs, x_sum in x_turns:
        for ys, y_sum in y_turns:
            if kept_product(products, x_sum, y_sum) == goal:
                return (xs, ys)
    return None


# A full board has some hundred thousand turns, but few sums: each product is reckoned once.
def kept_product(products, one, two):
    if (one, two) not in products:
        products[(one, two)] = times(one, two)
    return products[(one, two)]
