"""Deeds that lead on to a wish, what a deed costs, and stands that lie between two."""

from fullrooms.fewest import fewest
from fullrooms.houses import deeds_at, moved
from fullrooms.pieces import check_like


def leads(house, stand, wish):
    """All deeds behind which the wish is one deed less far, rising."""
    ahead = fewest(house, stand, wish)
    return tuple([
        deed for deed in deeds_at(house, stand) if fewest(house, moved(house, stand, deed), wish) < ahead
    ])


def costs(house, stand, wish, deed):
    """How much farther the wish is behind a deed than ahead of it: -1, 0 or 1."""
    ahead = fewest(house, stand, wish)
    return fewest(house, moved(house, stand, deed), wish) - ahead


def is_between(house, one, other, third):
    """Whether it is no farther from the one to the other by way of the third."""
    check_like(one, third)
    check_like(third, other)
    # Where no room has a place, the first of these two ways that leads elsewhere is refused.
    by_way = fewest(house, one, third) + fewest(house, third, other)
    return by_way == fewest(house, one, other)


def first_towards(house, one, other):
    """The stand behind the first deed that leads on from the one to the other; of like ones the one."""
    if one == other:
        return one
    return moved(house, one, leads(house, one, other)[0])
