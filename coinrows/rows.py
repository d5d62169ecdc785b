"""Rows of coins: their turns, their numbers and the reply to them."""

from coinrows.errors import NoTurn
from coinrows.field import summed
from coinrows.shapes import GREATEST_PLACE, check_place, check_row, check_rule, fits


def turns(rule, heads):
    check_rule(rule)
    check_row(heads)
    found = []
    for place in heads:
        found.extend(turns_ending(rule, place))
    return found


def allows(rule, heads, turn):
    check_rule(rule)
    check_row(heads)
    return fits(rule, turn, GREATEST_PLACE) and turn[-1] in heads


def after(rule, heads, turn):
    if not allows(rule, heads, turn):
        raise NoTurn("this is no turn of the row")
    return sorted(set(heads) ^ set(turn))


def number_of(rule, place):
    check_rule(rule)
    check_place(place)
    return place_number(rule, place)


def value(rule, heads):
    check_rule(rule)
    check_row(heads)
    return sum_of_numbers(rule, heads)


def reply(rule, heads):
    goal = value(rule, heads)
    # A turn adds the numbers of its places to the value, whichever sides were up. The number
    # of its last place is not the sum of the others, so no turn is found where the goal is nought.
    for place in heads:
        for turn in turns_ending(rule, place):
            if sum_of_numbers(rule, turn) == goal:
                return turn
    return None


# All lists that the rule lets end at this place, in the order in which turns are told.
def turns_ending(rule, place):
    k = rule[1]
    if rule[0] == "run":
        return [list(range(place - more, place + 1)) for more in range(min(k, place + 1))]
    shortest = k if rule[0] == "just" else 1
    found = []
    for length in range(shortest, k + 1):
        found.extend([lesser + [place] for lesser in choices(0, place, length - 1)])
    return found


# The lists of `count` rising places from `start` on and less than `end`, by their first places, then their second.
def choices(start, end, count):
    if count == 0:
        return [[]]
    found = []
    for first in range(start, end):
        found.extend([[first] + rest for rest in choices(first + 1, end, count - 1)])
    return found


def sum_of_numbers(rule, places):
    total = 0
    for place in places:
        total = summed(total, place_number(rule, place))
    return total


# The least number that no turn leads to is told outright, for to seek it among all turns
# would be slow; the tests seek it so, for every place under every rule.
def place_number(rule, place):
    k = rule[1]
    if rule[0] == "run":
        return run_number(k, place)
    if rule[0] == "most":
        return most_number(k, place)
    # No turn of just k ends at the first k - 1 places. Their numbers are nought, so turning
    # some of them fills up a shorter turn, and the places from there on go as by "most".
    if place < k - 1:
        return 0
    return most_number(k, place - (k - 1))


def most_number(k, place):
    if k == 1:
        return 1
    # One lesser place at will: a heap of place + 1, of which one takes as many as one likes.
    if k == 2:
        return place + 1
    # Two lesser places at will: the numbers are, in their order, those that have an odd count
    # of ones when written by twos, as the sum of two such has an even count and is none of them.
    if has_odd_ones(place):
        return 2 * place
    return 2 * place + 1


def has_odd_ones(number):
    odd = False
    while number > 0:
        if number % 2 == 1:
            odd = not odd
        number = number // 2
    return odd


# The greatest of 1, 2, 4, 8 .. that is at most k and divides place + 1: the neighbours
# ahead, taken one by one, sum up to every lesser number and never to this one.
def run_number(k, place):
    power = 1
    while 2 * power <= k and (place + 1) % (2 * power) == 0:
        power = 2 * power
    return power
