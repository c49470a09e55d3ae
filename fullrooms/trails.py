"""A plan of fewest deeds.

Where a thing goes from here to there, a place goes from there to here. So a plan is told by the ways of places,
against the arcs of a matching. A TRAIL is a pair (many, deeds): so many places go one way, or, where the deeds end
at the room at which they begin, one place goes round so many times. Such a trail is a RING.
"""

from fullrooms.arcs import is_closed, parts
from fullrooms.fewest import check_way
from fullrooms.hanging import hung
from fullrooms.houses import places
from fullrooms.wholes import STEPS


def plan(house, stand, wish):
    """A plan of fewest deeds that leads the stand to the wish."""
    check_way(house, stand, wish)
    free = places(house, stand)
    arcs = hung(house, stand, wish)
    rows = []
    # Closed parts come first: each of them uses a place elsewhere and leaves it as it was.
    for rooms in parts(arcs):
        if is_closed(house, stand, rooms):
            rows.extend(rows_of_closed(arcs_among(arcs, rooms), first_free(free)))
    for rooms in parts(arcs):
        if not is_closed(house, stand, rooms):
            rows.extend(rows_of_open(arcs_among(arcs, rooms), free))
    return packed(rows)


def arcs_among(arcs, rooms):
    """The arcs of the part that has these rooms."""
    return [arc for arc in arcs if arc[1] in rooms]


def first_free(free):
    """The first room that has a place."""
    return [room for room, many in enumerate(free) if many > 0][0]


def rows_of_closed(arcs, aside):
    """The rows of a part without places, with one deed more, into the room aside."""
    rings = split_up(arcs)[1]
    ring = rings.pop(0)
    kind, here, there = ring[1][-1]
    rows = rows_along(ring, rings)
    # The ring's last thing makes way first of all, and comes from aside in the end.
    rows[-1] = (1, ((kind, aside, there),))
    return [(1, ((kind, here, aside),)), *rows]


def rows_of_open(arcs, free):
    """The rows of a part that has a place."""
    ways, rings = split_up(arcs)
    rows = []
    for way in ways:
        rows.extend(rows_along(way, rings))
    if rings:
        # Without ways, all hangs together by rings alone, and any place of the part goes round all of them.
        rows.extend(rows_at(first_free_of(arcs, free), rings))
    return rows


def first_free_of(arcs, free):
    """The first room of a part that has a place."""
    return min([end for arc in arcs for end in arc[1:3] if free[end] > 0])


def split_up(arcs):
    """A part's arcs as trails: a list of those that are no rings, and one of rings."""
    left = {arc[:3]: arc[3] for arc in arcs}
    ways = []
    rings = []
    while left:
        start = next_start(left)
        deeds = walked(left, start)
        many = min([left[deed] for deed in deeds])
        if deeds[0][2] == deeds[-1][1]:
            rings.append((many, deeds))
        else:
            # No more places than the start can spare: what is beyond that comes by on its way from elsewhere.
            many = min(many, spare(left, start))
            ways.append((many, deeds))
        take_off(left, deeds, many)
    return ways, rings


def next_start(left):
    """A room with places to spare for the arcs left; without such, any room into which things go."""
    ends = sorted({deed[2] for deed in left})
    sparing = [room for room in ends if spare(left, room) > 0]
    return sparing[0] if sparing else ends[0]


def spare(left, room):
    """How many more things come into a room than go out, by the arcs left."""
    coming = sum([left[deed] for deed in left if deed[2] == room])
    going = sum([left[deed] for deed in left if deed[1] == room])
    return coming - going


def walked(left, start):
    """The deeds of a place's way from the start to where it ends, or of the first ring that it comes to."""
    rooms = [start]
    deeds = []
    onward = [deed for deed in left if deed[2] == start]
    while onward:
        deeds.append(onward[0])
        room = onward[0][1]
        if room in rooms:
            return tuple(deeds[rooms.index(room):])
        rooms.append(room)
        onward = [deed for deed in left if deed[2] == room]
    return tuple(deeds)


def take_off(left, deeds, many):
    """Take so many things off the arcs of these deeds."""
    for deed in deeds:
        left[deed] -= many
        if left[deed] == 0:
            del left[deed]


def rows_along(trail, rings):
    """The rows of a trail, and of all rings that it comes by, which are taken out of the rings."""
    many, deeds = trail
    rows = [(many - 1, deeds)] if many > 1 else []
    for deed in deeds:
        rows.extend(rows_at(deed[2], rings))
        rows.append((1, (deed,)))
    rows.extend(rows_at(deeds[-1][1], rings))
    return rows


def rows_at(room, rings):
    """The rows of all rings through a room that has a place, which are taken out of the rings."""
    rows = []
    ring = ring_through(room, rings)
    while ring is not None:
        rings.remove(ring)
        rows.extend(rows_along(turned(ring, room), rings))
        ring = ring_through(room, rings)
    return rows


def ring_through(room, rings):
    """The first ring through a room; None without such."""
    for ring in rings:
        if room in [deed[2] for deed in ring[1]]:
            return ring
    return None


def turned(ring, room):
    """The ring, begun at a room of it."""
    many, deeds = ring
    at = [deed[2] for deed in deeds].index(room)
    return (many, deeds[at:] + deeds[:at])


def packed(rows):
    """The rows as a plan: those that are done once and stand side by side made one, as far as STEPS goes."""
    told = []
    for many, deeds in rows:
        if many == 1 and told and told[-1][0] == 1 and len(told[-1][1]) + len(deeds) <= STEPS:
            told[-1] = (1, told[-1][1] + deeds)
        else:
            told.append((many, deeds))
    return tuple(told)
