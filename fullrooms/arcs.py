"""Matchings: from which room to which room the things go that are too many."""

from fullrooms.errors import NoArc
from fullrooms.houses import are_full
from fullrooms.pieces import amiss, check_like, first_unlike
from fullrooms.wholes import is_from, is_rising, is_whole


def matching(stand, wish):
    """The matching in which the first room that gives goes with the first that takes, kind by kind."""
    check_like(stand, wish)
    odds = amiss(stand, wish)
    return tuple([
        arc for kind, column in enumerate(zip(*odds)) for arc in arcs_of_kind(kind, column)
    ])


def arcs_of_kind(kind, column):
    """The arcs of one kind, of which the column tells what is amiss room by room."""
    rest = list(column)
    arcs = []
    for here in range(len(column)):
        for there in range(len(column)):
            many = min(rest[here], -rest[there])
            if many > 0:
                rest[here] -= many
                rest[there] += many
                arcs.append((kind, here, there, many))
    return arcs


def matching_holds(stand, wish, thing):
    """Whether anything is a matching of the stand and the wish."""
    if first_unlike(stand, wish) is not None or not isinstance(thing, tuple):
        return False
    odds = amiss(stand, wish)
    if not all([is_arc(odds, arc) for arc in thing]):
        return False
    return is_rising([arc[:3] for arc in thing]) and evens_out(odds, thing)


def is_arc(odds, thing):
    """Whether anything is an arc from a room that has too many to one that lacks some."""
    if not isinstance(thing, tuple) or len(thing) != 4:
        return False
    kind, here, there, many = thing
    if not is_from(kind, 0, len(odds[0]) - 1) or not is_whole(many):
        return False
    if not is_from(here, 0, len(odds) - 1) or not is_from(there, 0, len(odds) - 1):
        return False
    return many >= 1 and odds[here][kind] > 0 and odds[there][kind] < 0


def evens_out(odds, arcs):
    """Whether nothing is amiss any more where each arc's things have gone."""
    rest = [list(row) for row in odds]
    for kind, here, there, many in arcs:
        rest[here][kind] -= many
        rest[there][kind] += many
    return all([odd == 0 for row in rest for odd in row])


def parts(arcs):
    """The rooms that hang together by the arcs, part by part, by their first rooms."""
    found = []
    for room in sorted({end for arc in arcs for end in arc[1:3]}):
        if not any([room in part for part in found]):
            found.append(part_around(arcs, room))
    return tuple(found)


def part_around(arcs, room):
    """The part of a room that has an arc."""
    rooms = (room,)
    wider = with_neighbours(arcs, rooms)
    while wider != rooms:
        rooms = wider
        wider = with_neighbours(arcs, rooms)
    return rooms


def with_neighbours(arcs, rooms):
    """Rooms that have arcs, and all that an arc joins to one of them, rising."""
    return tuple(sorted({
        end for arc in arcs if arc[1] in rooms or arc[2] in rooms for end in arc[1:3]
    }))


def is_closed(house, stand, rooms):
    """Whether each of the rooms is full."""
    return are_full(house, stand, rooms)


def exchanged(arcs, one, other):
    """The matching behind it where two of its arcs, of one kind, exchange their ends for one thing."""
    counts = {arc[:3]: arc[3] for arc in arcs}
    if not is_one_of(counts, one):
        raise NoArc(one)
    if not is_one_of(counts, other) or other[0] != one[0] or other == one:
        raise NoArc(other)
    kind, here, there = one
    other_here, other_there = other[1:]
    counts[one] -= 1
    counts[other] -= 1
    for crossed in ((kind, here, other_there), (kind, other_here, there)):
        counts[crossed] = counts.get(crossed, 0) + 1
    return tuple([(*told, counts[told]) for told in sorted(counts) if counts[told] > 0])


def is_one_of(counts, thing):
    """Whether anything is one of the arcs, told as (kind, here, there)."""
    if not isinstance(thing, tuple) or len(thing) != 3:
        return False
    # Whole numbers are asked for ahead, as True would be found where 1 is, and a list can't be sought.
    return all([is_whole(number) for number in thing]) and thing in counts
