"""The shapes that what is handed in must have, and the refusal of what has another."""

# No refusal bears the number that was handed in: Python does not write one of very many digits as a text.

from coinrows.errors import NoBoard, NoNumber, NoRow, NoRule

GREATEST_NUMBER = 65535
GREATEST_PLACE = 39
GREATEST_BOARD_PLACE = 15
GREATEST_K = {"most": 3, "just": 3, "run": 40}


def check_number(number):
    if number < 0 or number > GREATEST_NUMBER:
        raise NoNumber("a number of the field goes from 0 to 65535")


def check_rule(rule):
    if rule[0] not in GREATEST_K:
        raise NoRule("a rule's word is most, just or run")
    if rule[1] < 1 or rule[1] > GREATEST_K[rule[0]]:
        raise NoRule("a rule's k goes from 1 to 3, or to 40 for run")


def check_place(place):
    if place < 0 or place > GREATEST_PLACE:
        raise NoRow("a row's places go from 0 to 39")


def check_row(heads):
    if not rises(heads, GREATEST_PLACE):
        raise NoRow("a row's places go from 0 to 39, each greater than the one ahead of it")


def check_board_place(x, y):
    if x < 0 or x > GREATEST_BOARD_PLACE or y < 0 or y > GREATEST_BOARD_PLACE:
        raise NoBoard("a board's x and y go from 0 to 15")


def check_board(heads):
    ahead = (-1, -1)
    for x, y in heads:
        check_board_place(x, y)
        if (x, y) <= ahead:
            raise NoBoard("a board's places stand in the order of x, and of y where the x are the same")
        ahead = (x, y)


def rises(places, greatest):
    ahead = -1
    for place in places:
        if place <= ahead or place > greatest:
            return False
        ahead = place
    return True


# Heads apart, for these lie otherwise in a row than on a board.
def fits(rule, places, greatest):
    if places == [] or not rises(places, greatest):
        return False
    if rule[0] == "just":
        return len(places) == rule[1]
    # As each place is greater than the one ahead, only neighbours lie so close.
    if rule[0] == "run" and places[-1] - places[0] >= len(places):
        return False
    return len(places) <= rule[1]
