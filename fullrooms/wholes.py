"""Whole numbers, and the bounds that the document sets for them."""

from fullrooms.errors import NoNumber

ROOMS = 8
KINDS = 6
GREAT = 10 ** 12
ROWS = 600
STEPS = 20


def is_whole(thing):
    """Whether anything is a whole number."""
    # Python counts True and False among the ints; the document does not.
    return isinstance(thing, int) and not isinstance(thing, bool)


def is_from(thing, low, high):
    """Whether anything is a whole number from low to high, both included."""
    return is_whole(thing) and low <= thing <= high


def check_from(thing, low, high):
    """Refuse anything that is no whole number from low to high, both included."""
    if not is_from(thing, low, high):
        raise NoNumber(thing)


def is_rising(row):
    """Whether each of a row's numbers, or tuples of numbers, is below the next."""
    return all([low < high for low, high in zip(row, row[1:])])
