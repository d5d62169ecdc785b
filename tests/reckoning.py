"""The plain reckoning that the tests hold the program against: straight from the words of
the points, with nothing drawn from the program but the product of two numbers."""

import functools
import itertools

from coinrows import errors
from coinrows.field import times

RULES = tuple(
    [("most", k) for k in range(1, 4)] + [("just", k) for k in range(1, 4)] + [("run", k) for k in range(1, 41)]
)
# Each kind of rule with its least and its greatest k among them.
SOME_RULES = RULES[:6] + (("run", 1), ("run", 2), ("run", 3), ("run", 4), ("run", 7), ("run", 40))
# For boards of few places, where a longer run makes no difference.
SMALL_RULES = RULES[:9]

WRONG_RULES = tuple(
    [(word, k) for word in ("most", "just") for k in (0, -1, -3, 4, 5, 40, -(10 ** 5000), 10 ** 5000)]
    + [("run", k) for k in (0, -1, -40, 41, 42, 1000, -(10 ** 5000), 10 ** 5000)]
    + [
        (word, k) for k in (1, 2, 0)
        for word in ("", "Most", "most ", " run", "runs", "mos", "just\n", "RUN", "least", "o")
    ]
)
WRONG_ROWS = (
    [-1], [40], [41], [10 ** 5000], [-(10 ** 5000)], [0, 0], [39, 39], [1, 0], [0, 2, 1], [0, 1, 1, 2], [5, 5, 5],
    [-1, 0], [0, -1], [38, 39, 40], [-2, -1], list(range(41)), list(range(39, -1, -1)), [3, 40, 5],
)
WRONG_PLACES = (-1, -2, -40, 40, 41, 79, 10 ** 5000, -(10 ** 5000))
WRONG_BOARDS = (
    [(-1, 0)], [(0, -1)], [(16, 0)], [(0, 16)], [(16, 16)], [(-1, -1)], [(10 ** 5000, 0)], [(0, -(10 ** 5000))],
    [(0, 0), (0, 0)], [(15, 15), (15, 15)], [(0, 1), (0, 0)], [(1, 0), (0, 0)], [(1, 0), (0, 1)],
    [(0, 0), (1, 1), (1, 0)], [(0, 5), (1, 16)], [(-1, 3), (0, 0)], [(3, 3), (2, 4), (5, 5)],
)
WRONG_BOARD_PLACES = (
    (-1, 0), (0, -1), (-1, -1), (16, 0), (0, 16), (16, 16), (15, 16), (16, 15), (39, 0), (0, 40), (-1, 16),
    (10 ** 5000, 3), (3, -(10 ** 5000)),
)

KINDS = (errors.NoNumber, errors.NoRule, errors.NoRow, errors.NoTurn, errors.NoBoard, errors.NoNote)


def assert_refused(case, kind, call, *handed):
    """Refused with this kind and none of the others."""
    with case.assertRaises(kind) as caught:
        call(*handed)
    case.assertIs(type(caught.exception), kind)
    case.assertIsInstance(caught.exception, errors.CoinError)
    case.assertIsInstance(caught.exception, ValueError)
    case.assertNotIsInstance(caught.exception, tuple(other for other in KINDS if other is not kind))


def subsets(things):
    things = list(things)
    for count in range(len(things) + 1):
        for chosen in itertools.combinations(things, count):
            yield list(chosen)


def goes_by(rule, places):
    """Point 8, but for the heads: of a list of rising places."""
    word, k = rule
    if word == "most":
        return 1 <= len(places) <= k
    if word == "just":
        return len(places) == k
    return 1 <= len(places) <= k and places == list(range(places[0], places[-1] + 1))


def order(turn):
    """Point 9."""
    return (turn[-1], len(turn), turn)


@functools.cache
def endings(rule, last):
    """Every turn with this last place, in the order of point 9, as tuples."""
    word, k = rule
    if word == "run":
        found = [list(range(last - length + 1, last + 1)) for length in range(1, k + 1) if length <= last + 1]
    else:
        found = [
            list(lesser) + [last] for length in range(1, k + 1)
            for lesser in itertools.combinations(range(last), length - 1)
        ]
    return tuple(tuple(turn) for turn in sorted((turn for turn in found if goes_by(rule, turn)), key=order))


def least_missing(numbers):
    taken = set(numbers)
    least = 0
    while least in taken:
        least += 1
    return least


def total(numbers):
    return functools.reduce(lambda one, two: one ^ two, numbers, 0)


@functools.cache
def numbers(rule, size=40):
    """Point 10: the numbers of the first places, each the least that no turn leads to."""
    found = []
    for place in range(size):
        found.append(least_missing(total(found[lesser] for lesser in turn[:-1]) for turn in endings(rule, place)))
    return tuple(found)


def row_value(rule, heads):
    return total(numbers(rule)[place] for place in heads)


def turned(heads, places):
    return sorted(set(heads) ^ set(places))


@functools.cache
def row_games(rule, size):
    """The least number of every row of so many places by the whole game, not by sums:
    a dict of rows, told as bits, in which a turn always makes the bits a lesser number."""
    turns = [[sum(1 << place for place in turn) for turn in endings(rule, last)] for last in range(size)]
    found = {}
    for row in range(1 << size):
        found[row] = least_missing(
            found[row ^ turn] for last in range(size) if row >> last & 1 for turn in turns[last]
        )
    return found


def board_endings(rule_x, rule_y, x, y):
    """Every turn of a board with this last place, in the order of point 15."""
    return [(list(xs), list(ys)) for xs in endings(rule_x, x) for ys in endings(rule_y, y)]


def crossed(xs, ys):
    return [(x, y) for x in xs for y in ys]


def board_value(rule_x, rule_y, heads):
    numbers_x = numbers(rule_x, 16)
    numbers_y = numbers(rule_y, 16)
    return total(times(numbers_x[x], numbers_y[y]) for x, y in heads)


def bits(places, height):
    return sum(1 << (x * height + y) for x, y in places)


def board_games(rule_x, rule_y, width, height):
    """As `row_games`, of boards."""
    places = crossed(range(width), range(height))
    turns = [
        [bits(crossed(xs, ys), height) for xs, ys in board_endings(rule_x, rule_y, x, y)] for x, y in places
    ]
    found = {}
    for board in range(1 << len(places)):
        found[board] = least_missing(
            found[board ^ turn] for last in range(len(places)) if board >> last & 1 for turn in turns[last]
        )
    return found
