"""Rows written as texts, and read from them."""

from coinrows.errors import NoNote, NoRow
from coinrows.shapes import check_row

MOST_SIGNS = 40
HEAD = "o"
TAIL = "."


def shown(heads, size):
    check_row(heads)
    if size < 0 or size > MOST_SIGNS:
        raise NoRow("a row is written with 0 to 40 signs")
    if heads != [] and heads[-1] >= size:
        raise NoRow("a place of the row lies beyond the signs")
    return "".join([HEAD if place in heads else TAIL for place in range(size)])


def read(text):
    if len(text) > MOST_SIGNS:
        raise NoNote("a row is written with at most 40 signs")
    heads = []
    for place, sign in enumerate(text):
        if sign != HEAD and sign != TAIL:
            raise NoNote("a row is written with the signs o and . alone")
        if sign == HEAD:
            heads.append(place)
    return heads
