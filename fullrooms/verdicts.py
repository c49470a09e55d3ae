"""Verdicts: a plan of fewest deeds, or a bar that there is no way."""

from fullrooms.papers import bar_holds
from fullrooms.pieces import first_unlike, is_stuck
from fullrooms.plans import is_least
from fullrooms.trails import plan


def verdict(house, stand, wish):
    """A plan of fewest deeds, or the first bar that there is, with the word that tells which."""
    kind = first_unlike(stand, wish)
    if kind is not None:
        return ("bar", ("things", kind))
    if is_stuck(house, stand, wish):
        return ("bar", ("full",))
    return ("plan", plan(house, stand, wish))


def verdict_holds(house, stand, wish, thing):
    """Whether anything is a plan of fewest deeds, or any bar, with its word."""
    if not isinstance(thing, tuple) or len(thing) != 2:
        return False
    word, told = thing
    if word == "plan":
        return is_least(house, stand, wish, told)
    return word == "bar" and bar_holds(house, stand, wish, told)
