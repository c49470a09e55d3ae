"""Papers that no fewer deeds do, bars that there is no way, and what looks them over without seeking."""

from fullrooms.fewest import fewest
from fullrooms.houses import are_full, is_kind, things
from fullrooms.pieces import (
    amiss, first_unlike, is_stuck, kinds_tied_to, rooms_tied_to, shut_pieces, too_many
)
from fullrooms.wholes import is_from, is_rising, is_whole


def none_fewer(house, stand, wish):
    """The paper of the fewest deeds and of all shut pieces."""
    return (fewest(house, stand, wish), shut_pieces(house, stand, wish))


def none_fewer_holds(house, stand, wish, thing):
    """Whether anything is a paper that no fewer deeds than its number lead from the stand to the wish."""
    if first_unlike(stand, wish) is not None or not is_paper(house, thing):
        return False
    number, sets = thing
    if number != too_many(stand, wish) + len(sets) or not are_apart(sets):
        return False
    odds = amiss(stand, wish)
    return all([are_full(house, stand, pair[0]) and is_cut_off(odds, pair) for pair in sets])


def is_paper(house, thing):
    """Whether anything has a no-fewer paper's form, whatever it says."""
    if not isinstance(thing, tuple) or len(thing) != 2:
        return False
    number, sets = thing
    if not is_whole(number) or not isinstance(sets, tuple):
        return False
    return all([is_pair(house, pair) for pair in sets])


def is_pair(house, thing):
    """Whether anything is a pair of a row of rooms and a row of kinds."""
    if not isinstance(thing, tuple) or len(thing) != 2:
        return False
    sizes, kinds = house
    return is_rising_row(thing[0], len(sizes)) and is_rising_row(thing[1], kinds)


def is_rising_row(thing, bound):
    """Whether anything is a rising tuple of numbers from 0 to below the bound."""
    # A rising row has none twice: a longer one need not be looked at, however long it is.
    if not isinstance(thing, tuple) or len(thing) > bound:
        return False
    return all([is_from(number, 0, bound - 1) for number in thing]) and is_rising(thing)


def are_apart(sets):
    """Whether no room and no kind stands in two of the sets."""
    rooms = [room for pair in sets for room in pair[0]]
    kinds = [kind for pair in sets for kind in pair[1]]
    return len(set(rooms)) == len(rooms) and len(set(kinds)) == len(kinds)


def is_cut_off(odds, pair):
    """Whether a set has ties, and none of them leads out of it."""
    rooms, kinds = pair
    tied_kinds = kinds_tied_to(odds, rooms)
    tied_rooms = rooms_tied_to(odds, kinds)
    if tied_kinds == ():
        return False
    return all([kind in kinds for kind in tied_kinds]) and all([room in rooms for room in tied_rooms])


def bar_holds(house, stand, wish, thing):
    """Whether anything is a bar: what tells that there is no way from the stand to the wish."""
    if thing == ("full",):
        return is_stuck(house, stand, wish)
    if not isinstance(thing, tuple) or len(thing) != 2 or thing[0] != "things":
        return False
    kind = thing[1]
    return is_kind(house, kind) and things(stand)[kind] != things(wish)[kind]
