"""The shapes that what is handed in must have, and the refusal of what has another."""

from coinrows.errors import NoNumber

GREATEST_NUMBER = 65535


def check_number(number):
    if number < 0 or number > GREATEST_NUMBER:
        # The number itself is left out of the words: Python does not write one of very many digits as a text.
        raise NoNumber("a number of the field goes from 0 to 65535")
