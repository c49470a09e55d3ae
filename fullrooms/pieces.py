"""What is amiss between a stand and a wish, and the pieces that hang together by it."""

from fullrooms.errors import Unlike
from fullrooms.houses import are_full, has_place, things


def first_unlike(stand, wish):
    """The first kind of which both do not have as many; None where they are of the same things."""
    for kind, (many, wished) in enumerate(zip(things(stand), things(wish))):
        if many != wished:
            return kind
    return None


def check_like(stand, wish):
    """Refuse a wish that is not of the same things."""
    kind = first_unlike(stand, wish)
    if kind is not None:
        raise Unlike(kind)


def is_stuck(house, stand, wish):
    """Whether something is amiss and no room has a place, so that no deed can be done."""
    return stand != wish and not has_place(house, stand)


def amiss(stand, wish):
    """For each room and kind how many there are less how many are wished."""
    return tuple([
        tuple([many - wished for many, wished in zip(row, wished_row)])
        for row, wished_row in zip(stand, wish)
    ])


def too_many(stand, wish):
    """How many things are too many where they are, all together."""
    return sum([max(0, odd) for row in amiss(stand, wish) for odd in row])


def pieces(stand, wish):
    """All pieces, by their first rooms."""
    odds = amiss(stand, wish)
    found = []
    for room, row in enumerate(odds):
        if any([odd != 0 for odd in row]) and not any([room in piece[0] for piece in found]):
            found.append(piece_around(odds, room))
    return tuple(found)


def piece_around(odds, room):
    """The piece of a room where something is amiss."""
    rooms = (room,)
    kinds = kinds_tied_to(odds, rooms)
    wider = rooms_tied_to(odds, kinds)
    while wider != rooms:
        rooms = wider
        kinds = kinds_tied_to(odds, rooms)
        wider = rooms_tied_to(odds, kinds)
    return (rooms, kinds)


def kinds_tied_to(odds, rooms):
    """The kinds of which something is amiss in some of the rooms, rising."""
    return tuple([
        kind for kind in range(len(odds[0])) if any([odds[room][kind] != 0 for room in rooms])
    ])


def rooms_tied_to(odds, kinds):
    """The rooms in which something is amiss of some of the kinds, rising."""
    return tuple([
        room for room in range(len(odds)) if any([odds[room][kind] != 0 for kind in kinds])
    ])


def is_shut(house, stand, piece):
    """Whether each room of a piece is full."""
    return are_full(house, stand, piece[0])


def shut_pieces(house, stand, wish):
    """All pieces that are shut, by their first rooms."""
    return tuple([piece for piece in pieces(stand, wish) if is_shut(house, stand, piece)])
