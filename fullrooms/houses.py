"""Houses, the stands of things in them, and deeds that carry things about."""

from fullrooms.errors import Full, Lacks, NoKind, NoRoom
from fullrooms.wholes import GREAT, KINDS, ROOMS, check_from, is_from


def is_house(thing):
    """Whether anything is a house: a tuple (sizes, kinds)."""
    if not isinstance(thing, tuple) or len(thing) != 2:
        return False
    sizes, kinds = thing
    return are_sizes(sizes) and is_from(kinds, 1, KINDS)


def are_sizes(thing):
    """Whether anything is the tuple of a house's sizes."""
    if not isinstance(thing, tuple) or not is_from(len(thing), 1, ROOMS):
        return False
    return all([is_from(size, 1, GREAT) for size in thing])


def is_stand(house, thing):
    """Whether anything is a stand of the house."""
    sizes, kinds = house
    if not isinstance(thing, tuple) or len(thing) != len(sizes):
        return False
    return all([is_row(row, kinds, size) for row, size in zip(thing, sizes)])


def is_row(thing, kinds, size):
    """Whether anything tells what a room of that size holds, kind by kind."""
    if not isinstance(thing, tuple) or len(thing) != kinds:
        return False
    if not all([is_from(many, 0, size) for many in thing]):
        return False
    return sum(thing) <= size


def is_kind(house, thing):
    """Whether anything is the number of one of the house's kinds."""
    return is_from(thing, 0, house[1] - 1)


def is_room(house, thing):
    """Whether anything is the number of one of the house's rooms."""
    return is_from(thing, 0, len(house[0]) - 1)


def is_deed(house, thing):
    """Whether anything is a deed of the house, though perhaps none that can be done."""
    if not isinstance(thing, tuple) or len(thing) != 3:
        return False
    kind, here, there = thing
    if not is_kind(house, kind) or not is_room(house, here) or not is_room(house, there):
        return False
    return here != there


def places(house, stand):
    """How many places each room has free, room by room."""
    return tuple([size - sum(row) for size, row in zip(house[0], stand)])


def has_place(house, stand):
    """Whether some room has a place free."""
    return any([free > 0 for free in places(house, stand)])


def are_full(house, stand, rooms):
    """Whether each of the rooms is full."""
    free = places(house, stand)
    return all([free[room] == 0 for room in rooms])


def things(stand):
    """How many things of each kind there are in all rooms together, kind by kind."""
    return tuple([sum(column) for column in zip(*stand)])


def moved(house, stand, deed):
    """The stand behind the deed."""
    check_deed(house, deed)
    return carried(house, stand, deed, 1)


def moved_many(house, stand, deed, many):
    """The stand behind so many times of the same deed."""
    check_deed(house, deed)
    check_from(many, 0, GREAT)
    return carried(house, stand, deed, many)


def check_kind(house, kind):
    """Refuse anything that is no kind's number."""
    if not is_kind(house, kind):
        raise NoKind(kind)


def check_room(house, room):
    """Refuse anything that is no room's number."""
    if not is_room(house, room):
        raise NoRoom(room)


def check_deed(house, deed):
    """Refuse a tuple of three that is no deed of the house."""
    kind, here, there = deed
    check_kind(house, kind)
    check_room(house, here)
    check_room(house, there)
    if there == here:
        raise NoRoom(there)


def carried(house, stand, deed, many):
    """The stand behind so many times of what is a deed of the house."""
    kind, here, there = deed
    held = stand[here][kind]
    free = places(house, stand)[there]
    # Where both give out at once, it is the lack that is told of.
    if held < many and held <= free:
        raise Lacks(here)
    if free < many:
        raise Full(there)
    return with_more(with_more(stand, here, kind, -many), there, kind, many)


def with_more(stand, room, kind, more):
    """The stand with so many more of a kind in a room, or fewer where more is below 0."""
    row = stand[room]
    rows = list(stand)
    rows[room] = row[:kind] + (row[kind] + more,) + row[kind + 1:]
    return tuple(rows)


def deeds_at(house, stand):
    """All deeds that can be done, rising."""
    sizes, kinds = house
    free = places(house, stand)
    return tuple([
        (kind, here, there)
        for kind in range(kinds)
        for here in range(len(sizes))
        for there in range(len(sizes))
        if here != there and stand[here][kind] > 0 and free[there] > 0
    ])
