"""Deeds that are done [6]: moved, moved_many, deeds_at."""

import itertools
import unittest

from asking import Asking, odd_things, stands_of
from fullrooms.errors import Full, Lacks, NoKind, NoNumber, NoRoom, RoomError
from fullrooms.houses import deeds_at, is_stand, moved, moved_many, places, things

GREAT = 10 ** 12
HOUSE = ((4, 3, 5), 2)
STAND = ((2, 1), (1, 2), (0, 1))


def changed(stand, room, kind, more):
    """A stand with so many more of a kind in a room."""
    rows = [list(row) for row in stand]
    rows[room][kind] += more
    return tuple(tuple(row) for row in rows)


def first_refusal(house, stand, deed, many):
    """What is refused first by the words of [6], as (error, field, worth); None where nothing is."""
    sizes, kinds = house
    kind, here, there = deed
    if type(kind) is not int or kind not in range(kinds):
        return NoKind, "kind", kind
    if type(here) is not int or here not in range(len(sizes)):
        return NoRoom, "room", here
    if type(there) is not int or there not in range(len(sizes)) or there == here:
        return NoRoom, "room", there
    if type(many) is not int or not 0 <= many <= GREAT:
        return NoNumber, "number", many
    held = stand[here][kind]
    free = sizes[there] - sum(stand[there])
    if many > min(held, free):
        return (Lacks, "room", here) if held <= free else (Full, "room", there)
    return None


class Moving(Asking):
    """Looks at one deed by the words of [6]."""

    def look_over(self, house, stand, deed, many, function, *handed):
        refusal = first_refusal(house, stand, deed, many)
        if refusal is None:
            kind, here, there = deed
            behind = changed(changed(stand, here, kind, -many), there, kind, many)
            self.assert_tells(behind, function, *handed)
            self.assertTrue(is_stand(house, behind))
            self.assertEqual(things(stand), things(behind))
        else:
            self.assert_refuses(*refusal, function, *handed)


class Moved(Moving):

    def test_the_stand_behind(self):
        self.assert_tells(((1, 1), (1, 2), (1, 1)), moved, HOUSE, STAND, (0, 0, 2))
        self.assert_tells(((2, 2), (1, 1), (0, 1)), moved, HOUSE, STAND, (1, 1, 0))
        self.assert_tells(((2, 2), (1, 2), (0, 0)), moved, HOUSE, STAND, (1, 2, 0))

    def test_great_numbers(self):
        house = ((GREAT, GREAT), 1)
        self.assert_tells(((GREAT - 2,), (GREAT,)), moved, house, ((GREAT - 1,), (GREAT - 1,)), (0, 0, 1))

    def test_each_stand_and_each_deed_of_small_houses(self):
        for house in [((1,), 1), ((1, 2), 1), ((2, 1), 2), ((1, 1, 2), 2)]:
            rooms = range(len(house[0]))
            for stand in stands_of(house):
                for deed in itertools.product(range(house[1]), rooms, rooms):
                    self.look_over(house, stand, deed, 1, moved, house, stand, deed)

    def test_refused_kind(self):
        for thing in [-1, 2, GREAT, 10 ** 59, *odd_things()]:
            self.assert_refuses(NoKind, "kind", thing, moved, HOUSE, STAND, (thing, 0, 2))

    def test_refused_rooms(self):
        for thing in [-1, 3, GREAT, 10 ** 59, *odd_things()]:
            self.assert_refuses(NoRoom, "room", thing, moved, HOUSE, STAND, (0, thing, 2))
            self.assert_refuses(NoRoom, "room", thing, moved, HOUSE, STAND, (0, 0, thing))

    def test_there_where_it_is_here(self):
        for room in range(3):
            self.assert_refuses(NoRoom, "room", room, moved, HOUSE, STAND, (0, room, room))
        self.assert_refuses(NoRoom, "room", 0, moved, ((1,), 1), ((1,),), (0, 0, 0))

    def test_of_two_refused_rooms_here_is_told(self):
        first, second = [1], [1]
        self.assert_refuses(NoRoom, "room", first, moved, HOUSE, STAND, (0, first, second))
        self.assert_refuses(NoRoom, "room", -1, moved, HOUSE, STAND, (0, -1, 3))

    def test_lacks_and_full(self):
        self.assert_refuses(Lacks, "room", 2, moved, HOUSE, STAND, (0, 2, 0))
        self.assert_refuses(Full, "room", 1, moved, HOUSE, STAND, (0, 0, 1))
        self.assert_refuses(Lacks, "room", 2, moved, HOUSE, STAND, (0, 2, 1))

    def test_of_several_the_one_told_first(self):
        values = (0, 1, 2, 3, True, False, -1, None)
        for deed in itertools.product(values, repeat=3):
            self.look_over(HOUSE, STAND, deed, 1, moved, HOUSE, STAND, deed)

    def test_refusals_change_nothing_handed_in(self):
        kind, here, there = [0, {"a": [1]}], {"b": [2]}, [[], (3, [])]
        self.assert_refuses(NoKind, "kind", kind, moved, HOUSE, STAND, (kind, here, there))
        self.assert_refuses(NoRoom, "room", here, moved, HOUSE, STAND, (0, here, there))
        self.assert_refuses(NoRoom, "room", there, moved, HOUSE, STAND, (0, 0, there))


class MovedMany(Moving):

    def test_so_many(self):
        house = ((9, 9), 2)
        stand = ((5, 1), (2, 0))
        self.assert_tells(stand, moved_many, house, stand, (0, 0, 1), 0)
        self.assert_tells(((4, 1), (3, 0)), moved_many, house, stand, (0, 0, 1), 1)
        self.assert_tells(((0, 1), (7, 0)), moved_many, house, stand, (0, 0, 1), 5)
        self.assert_refuses(Lacks, "room", 0, moved_many, house, stand, (0, 0, 1), 6)
        self.assert_tells(((7, 1), (0, 0)), moved_many, house, stand, (0, 1, 0), 2)
        self.assert_refuses(Lacks, "room", 1, moved_many, house, stand, (0, 1, 0), 3)

    def test_great_numbers(self):
        house = ((GREAT, GREAT, GREAT), 1)
        stand = ((GREAT,), (0,), (1,))
        self.assert_tells(((0,), (GREAT,), (1,)), moved_many, house, stand, (0, 0, 1), GREAT)
        self.assert_tells(((1,), (0,), (GREAT,)), moved_many, house, stand, (0, 0, 2), GREAT - 1)
        self.assert_refuses(Full, "room", 2, moved_many, house, stand, (0, 0, 2), GREAT)
        self.assert_refuses(Lacks, "room", 2, moved_many, house, stand, (0, 2, 1), GREAT)

    def test_things_give_out_ahead_of_places_with_them_and_behind_them(self):
        house = ((9, 9), 1)
        for held in range(10):
            for free in range(10):
                stand = ((held,), (9 - free,))
                goes = min(held, free)
                self.assert_tells(((held - goes,), (9 - free + goes,)), moved_many, house, stand, (0, 0, 1), goes)
                for many in (goes + 1, goes + 2, 10, GREAT):
                    error, room = (Lacks, 0) if held <= free else (Full, 1)
                    self.assert_refuses(error, "room", room, moved_many, house, stand, (0, 0, 1), many)

    def test_refused_numbers(self):
        for thing in [-1, -GREAT, GREAT + 1, 10 ** 59, *odd_things()]:
            self.assert_refuses(NoNumber, "number", thing, moved_many, HOUSE, STAND, (0, 0, 2), thing)

    def test_none_at_all_is_refused_by_kind_and_rooms_alone(self):
        self.assert_tells(STAND, moved_many, HOUSE, STAND, (0, 2, 1), 0)
        self.assert_refuses(NoKind, "kind", 2, moved_many, HOUSE, STAND, (2, 2, 1), 0)
        self.assert_refuses(NoRoom, "room", 3, moved_many, HOUSE, STAND, (0, 3, 1), 0)
        self.assert_refuses(NoRoom, "room", 1, moved_many, HOUSE, STAND, (0, 1, 1), 0)

    def test_refused_kind_and_rooms(self):
        for thing in [-1, 3, 10 ** 59, *odd_things()]:
            self.assert_refuses(NoKind, "kind", thing, moved_many, HOUSE, STAND, (thing, 0, 2), 1)
            self.assert_refuses(NoRoom, "room", thing, moved_many, HOUSE, STAND, (0, thing, 2), 1)
            self.assert_refuses(NoRoom, "room", thing, moved_many, HOUSE, STAND, (0, 0, thing), 1)

    def test_of_several_the_one_told_first_with_many(self):
        values = (0, 1, 2, True, -1, "1")
        for kind, here, there, many in itertools.product(values, values, values, (0, 1, 4, True, GREAT + 1, None)):
            deed = (kind, here, there)
            self.look_over(HOUSE, STAND, deed, many, moved_many, HOUSE, STAND, deed, many)

    def test_each_stand_deed_and_number_of_small_houses(self):
        for house in [((2,), 1), ((3, 2), 1), ((2, 2), 2), ((1, 2, 1), 1)]:
            rooms = range(len(house[0]))
            for stand in stands_of(house):
                for deed in itertools.product(range(house[1]), rooms, rooms):
                    for many in range(-1, 5):
                        self.look_over(house, stand, deed, many, moved_many, house, stand, deed, many)

    def test_as_one_behind_another(self):
        house = ((3, 2, 2), 2)
        for stand in stands_of(house):
            for deed in [(0, 0, 1), (1, 1, 0), (0, 2, 1), (1, 2, 0)]:
                for many in range(5):
                    self.assertEqual(
                        outcome(one_by_one, house, stand, deed, many), outcome(moved_many, house, stand, deed, many)
                    )

    def test_refusals_change_nothing_handed_in(self):
        many = [{"many": [1]}, (2, [])]
        self.assert_refuses(NoNumber, "number", many, moved_many, HOUSE, STAND, (0, 0, 2), many)
        self.assert_refuses(NoKind, "kind", many, moved_many, HOUSE, STAND, (many, 0, 2), many)


def one_by_one(house, stand, deed, many):
    """The stand behind so many times of a deed, each done by itself."""
    for _ in range(many):
        stand = moved(house, stand, deed)
    return stand


def outcome(function, *handed):
    """What a function tells, or the refusal's class and field."""
    try:
        return function(*handed)
    except RoomError as refusal:
        return type(refusal), vars(refusal)


class DeedsAt(Asking):

    def test_told(self):
        self.assert_tells(
            ((0, 0, 2), (0, 1, 0), (0, 1, 2), (1, 0, 2), (1, 1, 0), (1, 1, 2), (1, 2, 0)), deeds_at, HOUSE, STAND
        )

    def test_of_an_empty_stand(self):
        self.assert_tells((), deeds_at, ((4, 3, 5), 2), ((0, 0),) * 3)

    def test_of_a_full_stand(self):
        self.assert_tells((), deeds_at, ((2, 3), 2), ((1, 1), (0, 3)))

    def test_of_a_house_with_one_room(self):
        for many in range(4):
            self.assert_tells((), deeds_at, ((3,), 1), ((many,),))
        self.assert_tells((), deeds_at, ((9,), 3), ((1, 2, 3),))

    def test_of_the_widest_house(self):
        house = ((GREAT,) * 8, 6)
        every = tuple(
            (kind, here, there) for kind in range(6) for here in range(8) for there in range(8) if here != there
        )
        self.assert_tells(every, deeds_at, house, ((1,) * 6,) * 8)
        one_place = ((GREAT - 6, 1, 1, 1, 1, 1),) + ((GREAT - 5, 1, 1, 1, 1, 1),) * 7
        self.assert_tells(tuple(deed for deed in every if deed[2] == 0), deeds_at, house, one_place)

    def test_all_that_can_be_done_and_no_others_rising(self):
        for house in [((1, 2), 2), ((2, 1, 1), 2), ((1, 1, 1), 3), ((3, 1), 1)]:
            rooms = range(len(house[0]))
            deeds = sorted(itertools.product(range(house[1]), rooms, rooms))
            for stand in stands_of(house):
                can = tuple(deed for deed in deeds if first_refusal(house, stand, deed, 1) is None)
                self.assert_tells(can, deeds_at, house, stand)
                for deed in can:
                    self.assertTrue(is_stand(house, moved(house, stand, deed)))

    def test_there_is_none_just_where_nothing_or_no_place_is(self):
        house = ((1, 2, 1), 2)
        for stand in stands_of(house):
            stuck = sum(things(stand)) == 0 or sum(places(house, stand)) == 0
            self.assertEqual(stuck, self.ask(deeds_at, house, stand) == ())


if __name__ == "__main__":
    unittest.main()
