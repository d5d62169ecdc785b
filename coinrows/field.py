"""The numbers of the field, from 0 to 65535: their sum and their product."""

from coinrows.shapes import check_number

# Each base is the usual square of the one ahead of it, so the numbers less than a base
# are just those that the base ahead splits into a high and a low part less than itself.
BASES = (2, 4, 16, 256)


def summed(one, two):
    check_number(one)
    check_number(two)
    return one ^ two


def times(one, two):
    check_number(one)
    check_number(two)
    return product(one, two, len(BASES))


# Takes numbers that the first `depth` bases are enough for: less than the usual square
# of the last of these, or less than 2 where depth is 0.
def product(one, two, depth):
    if one < 2 or two < 2:
        return one * two
    base = BASES[depth - 1]
    high_one = one // base
    low_one = one % base
    high_two = two // base
    low_two = two % base
    highs = product(high_one, high_two, depth - 1)
    lows = product(low_one, low_two, depth - 1)
    whole = product(high_one ^ low_one, high_two ^ low_two, depth - 1)
    # The base with itself is the base and its half, so the product of the high parts
    # counts with the base, beside the two crossed products, and with the half too.
    with_base = whole ^ lows
    with_half = product(highs, base // 2, depth - 1)
    return (with_base * base) ^ with_half ^ lows
