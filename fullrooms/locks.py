"""What a store's wishes come to, by rooms that are not locked alone."""

from fullrooms.changes import without
from fullrooms.errors import BadStand
from fullrooms.fewest import fewest
from fullrooms.houses import is_stand
from fullrooms.leading import leads
from fullrooms.pieces import check_like
from fullrooms.states import wish_of
from fullrooms.trails import plan


def fewest_unlocked(state, name):
    """The fewest deeds that lead to the wish by that name."""
    task = unlocked(state, name)
    return fewest(*task)


def plan_unlocked(state, name):
    """A plan of fewest deeds that leads to the wish by that name."""
    task = unlocked(state, name)
    rows = plan(*task)
    return tuple([(many, own_deeds(state, deeds)) for many, deeds in rows])


def leads_unlocked(state, name):
    """All deeds that lead on to the wish by that name, rising."""
    task = unlocked(state, name)
    return own_deeds(state, leads(*task))


def unlocked(state, name):
    """The house, the stand and the wish by that name without the locked rooms."""
    house, stand, locked, wishes = state
    wish = wish_of(state, name)
    if not is_stand(house, wish):
        raise BadStand()
    check_like(stand, wish)
    # Where all rooms are locked, no room is left, and nothing is amiss in none.
    return without(house, stand, wish, locked)


def own_deeds(state, deeds):
    """Deeds that number the rooms without the locked ones, by the rooms' own numbers."""
    rooms = [room for room in range(len(state[1])) if room not in state[2]]
    return tuple([(kind, rooms[here], rooms[there]) for kind, here, there in deeds])
