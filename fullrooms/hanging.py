"""The matching whose closed parts have just the rooms of the shut pieces."""

from fullrooms.arcs import exchanged, is_closed, matching, parts


def hung(house, stand, wish):
    """The matching behind all exchanges by which a closed part and another one become one part."""
    arcs = matching(stand, wish)
    pair = pair_to_exchange(house, stand, arcs)
    while pair is not None:
        one, other = pair
        # As much goes out of each room of a closed part as comes in, so it hangs together without the arc
        # that is cut, too: both become one part, and that comes to an end.
        arcs = exchanged(arcs, one, other)
        pair = pair_to_exchange(house, stand, arcs)
    return arcs


def pair_to_exchange(house, stand, arcs):
    """The first closed part's arc, and another part's of its kind, as exchanged takes them; None without such."""
    for rooms in parts(arcs):
        if is_closed(house, stand, rooms):
            pair = pair_across(arcs, rooms)
            if pair is not None:
                return pair
    return None


def pair_across(arcs, rooms):
    """The part's first arc of a kind that others have, too, and the others' first of that kind; None without such."""
    outside = [arc[:3] for arc in arcs if arc[1] not in rooms]
    for arc in arcs:
        if arc[1] in rooms:
            alike = [other for other in outside if other[0] == arc[0]]
            if alike:
                return (arc[:3], alike[0])
    return None
