"""Other houses: rooms with places more, kinds or rooms made one, rooms left out, and wishes filled up."""

from fullrooms.errors import Full, Needed, NoNumber, TooGreat, Unlike
from fullrooms.fewest import fewest
from fullrooms.houses import check_room, has_place, things
from fullrooms.pieces import check_like, shut_pieces, too_many
from fullrooms.wholes import GREAT, check_from, is_whole


def saved(house, stand, wish, room, many):
    """How many deeds fewer are enough if the room had so many places more."""
    ahead = fewest(house, stand, wish)
    check_room(house, room)
    check_from(many, 1, GREAT)
    return ahead - fewest(resized(house, room, many), stand, wish)


def resized(house, room, more):
    """The house with so many places more in a room, or fewer where more is below 0."""
    sizes, kinds = house
    return (sizes[:room] + (sizes[room] + more,) + sizes[room + 1:], kinds)


def places_for(house, stand, wish, number):
    """The rooms, as few as can be, that need a place more so that the number of deeds is enough; None: no places do."""
    check_like(stand, wish)
    if not is_whole(number) or number < 0:
        raise NoNumber(number)
    spare = number - too_many(stand, wish)
    if spare < 0:
        return None
    shut = shut_pieces(house, stand, wish)
    needed = max(0, len(shut) - spare)
    if not has_place(house, stand):
        # Without any place no number of deeds is enough, but where nothing is amiss: then no piece is shut.
        needed = max(1, needed)
    return tuple([rooms[0] for rooms, kinds in shut[:needed]])


def one_kind(house, stand, one, other):
    """The house and the stand in which the kind other is the kind one, which is below it."""
    sizes, kinds = house
    return ((sizes, kinds - 1), tuple([joined(row, one, other) for row in stand]))


def joined(row, one, other):
    """A row of numbers in which what stands at other is added to what stands at one, below it."""
    return row[:one] + (row[one] + row[other],) + row[one + 1:other] + row[other + 1:]


def one_room(house, stand, one, other):
    """The house and the stand in which the room other is the room one, which is below it."""
    sizes, kinds = house
    wider = joined(sizes, one, other)
    if wider[one] > GREAT:
        raise TooGreat()
    columns = [joined(column, one, other) for column in zip(*stand)]
    return ((wider, kinds), tuple(zip(*columns)))


def without(house, stand, wish, rooms):
    """The house, the stand and the wish without some rooms, the others numbered anew in their order."""
    check_none_needed(stand, wish, rooms)
    sizes, kinds = house
    return ((left_over(sizes, rooms), kinds), left_over(stand, rooms), left_over(wish, rooms))


def check_none_needed(stand, wish, rooms):
    """Refuse to leave out rooms where something is amiss."""
    for room in rooms:
        if stand[room] != wish[room]:
            raise Needed(room)


def left_over(row, rooms):
    """What stands in a row, room by room, without some rooms."""
    return tuple([told for room, told in enumerate(row) if room not in rooms])


def filled(house, stand, wish):
    """The wish, of which one room is not told, with all that is left over of the stand's things in that room."""
    room = wish.index(None)
    rest = left_of(things(stand), [row for row in wish if row is not None])
    for kind, many in enumerate(rest):
        if many < 0:
            raise Unlike(kind)
    if sum(rest) > house[0][room]:
        raise Full(room)
    return wish[:room] + (rest,) + wish[room + 1:]


def left_of(heap, rows):
    """How many of each kind are left of a heap without the things of some rows."""
    return tuple([many - sum([row[kind] for row in rows]) for kind, many in enumerate(heap)])
