"""A store's states, and the state behind each deed.

A STATE is a tuple (house, stand, locked, wishes): locked a rising tuple of rooms, wishes a tuple of pairs
(name, stand), rising. It is never changed, so that those ahead of a deed can be told at any time.
"""

from fullrooms.changes import resized
from fullrooms.errors import BadStand, Full, Lacks, Locked, NoName, Open, TooGreat
from fullrooms.houses import carried, check_deed, check_kind, check_room, is_stand, places, with_more
from fullrooms.wholes import GREAT, check_from, is_from

LETTERS = "abcdefghijklmnopqrstuvwxyz"
LONGEST_NAME = 8
MOST_TRIED = 20


def is_name(thing):
    """Whether anything is a text that a wish may have as its name."""
    if not isinstance(thing, str) or not is_from(len(thing), 1, LONGEST_NAME):
        return False
    return all([sign in LETTERS for sign in thing])


def wish_of(state, name):
    """The wish by that name."""
    for known, wish in state[3]:
        if known == name:
            return wish
    raise NoName(name)


def check_not_locked(state, room):
    """Refuse a room that is locked."""
    if room in state[2]:
        raise Locked(room)


def check_free_room(state, room):
    """Refuse anything that is no room's number, then a room that is locked."""
    check_room(state[0], room)
    check_not_locked(state, room)


def check_heap(state, room, many):
    """Refuse anything that is no room, then no number of things, then a room that is locked."""
    check_room(state[0], room)
    check_from(many, 1, GREAT)
    check_not_locked(state, room)


def carry(state, kind, here, there, many):
    """The state behind it where so many things go from here to there."""
    house, stand, locked, wishes = state
    deed = (kind, here, there)
    check_deed(house, deed)
    check_from(many, 1, GREAT)
    check_not_locked(state, here)
    check_not_locked(state, there)
    return (house, carried(house, stand, deed, many), locked, wishes)


def bring(state, kind, room, many):
    """The state behind it where so many things come."""
    house, stand, locked, wishes = state
    check_kind(house, kind)
    check_heap(state, room, many)
    if places(house, stand)[room] < many:
        raise Full(room)
    return (house, with_more(stand, room, kind, many), locked, wishes)


def take(state, kind, room, many):
    """The state behind it where so many things go."""
    house, stand, locked, wishes = state
    check_kind(house, kind)
    check_heap(state, room, many)
    if stand[room][kind] < many:
        raise Lacks(room)
    return (house, with_more(stand, room, kind, -many), locked, wishes)


def widen(state, room, many):
    """The state behind it where a room has so many places more."""
    house, stand, locked, wishes = state
    check_heap(state, room, many)
    wider = resized(house, room, many)
    if wider[0][room] > GREAT:
        raise TooGreat()
    return (wider, stand, locked, wishes)


def narrow(state, room, many):
    """The state behind it where a room has so many places fewer."""
    house, stand, locked, wishes = state
    check_heap(state, room, many)
    narrower = resized(house, room, -many)
    if narrower[0][room] < 1 or places(narrower, stand)[room] < 0:
        raise Full(room)
    return (narrower, stand, locked, wishes)


def lock(state, room):
    """The state behind it where a room is locked."""
    check_free_room(state, room)
    house, stand, locked, wishes = state
    return (house, stand, tuple(sorted([*locked, room])), wishes)


def unlock(state, room):
    """The state behind it where a room is not locked any more."""
    house, stand, locked, wishes = state
    check_room(house, room)
    if room not in locked:
        raise Open(room)
    return (house, stand, tuple([other for other in locked if other != room]), wishes)


def wish_for(state, name, wish):
    """The state behind it where there is that wish by that name."""
    house, stand, locked, wishes = state
    if not is_name(name):
        raise NoName(name)
    if not is_stand(house, wish):
        raise BadStand()
    return (house, stand, locked, tuple(sorted([*wishes_but(wishes, name), (name, wish)])))


def drop(state, name):
    """The state behind it where the wish by that name is gone."""
    house, stand, locked, wishes = state
    wish_of(state, name)
    return (house, stand, locked, tuple(wishes_but(wishes, name)))


def wishes_but(wishes, name):
    """All wishes but the one by that name."""
    return [pair for pair in wishes if pair[0] != name]


DEEDS_BY_WORD = {
    "carry": carry, "bring": bring, "take": take, "widen": widen, "narrow": narrow, "lock": lock, "unlock": unlock,
    "wish": wish_for, "drop": drop,
}
TAKES = {
    "carry": 4, "bring": 3, "take": 3, "widen": 2, "narrow": 2, "lock": 1, "unlock": 1, "wish": 2, "drop": 1,
}


def state_behind(state, deed):
    """The state behind a deed, told as a tuple of its word and what it is handed."""
    word, *handed = deed
    action = DEEDS_BY_WORD[word]
    return action(state, *handed)


def are_deeds(thing):
    """Whether anything is a row of deeds that may be tried."""
    if not isinstance(thing, (list, tuple)) or len(thing) > MOST_TRIED:
        return False
    return all([is_told_deed(deed) for deed in thing])


def is_told_deed(thing):
    """Whether anything is a tuple of a deed's word and just as many things as it takes."""
    if not isinstance(thing, tuple) or len(thing) == 0:
        return False
    word = thing[0]
    # Texts are asked for ahead, as a list can't be sought.
    return isinstance(word, str) and word in TAKES and len(thing) == TAKES[word] + 1
