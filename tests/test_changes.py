"""Another house [23] to [27], and what [3] says of places more, and of kinds and rooms made one."""

import itertools
import random
import unittest

from asking import GREAT, SMALL, Asking, great_task, like_pairs, odd_things, shut_task
from fullrooms.changes import filled, one_kind, one_room, places_for, saved, without
from fullrooms.errors import Full, Needed, NoNumber, NoPlace, NoRoom, TooGreat, Unlike
from fullrooms.fewest import fewest
from fullrooms.houses import is_house, is_stand, places, things
from fullrooms.pieces import shut_pieces, too_many

# Shut are rooms 0 and 2, and rooms 1 and 3. Rooms 4 and 5 are a piece with places, room 6 is full and right.
HOUSE = ((1, 1, 1, 1, 2, 2, 1), 5)
STAND = (
    (1, 0, 0, 0, 0), (0, 1, 0, 0, 0), (0, 0, 1, 0, 0), (0, 0, 0, 1, 0), (0, 0, 0, 0, 2), (0, 0, 0, 0, 0),
    (0, 0, 0, 0, 1),
)
WISH = (STAND[2], STAND[3], STAND[0], STAND[1], STAND[5], STAND[4], STAND[6])
UNLIKE = (*WISH[:6], (0, 0, 0, 0, 0))
FULL = ((1, 1, 1, 1), 4)
FULL_STAND = ((1, 0, 0, 0), (0, 1, 0, 0), (0, 0, 1, 0), (0, 0, 0, 1))
FULL_WISH = (FULL_STAND[1], FULL_STAND[0], FULL_STAND[3], FULL_STAND[2])


def wider(house, rooms, many=1):
    """The house with so many places more in each of the rooms."""
    sizes, kinds = house
    return (tuple(size + many * (room in rooms) for room, size in enumerate(sizes)), kinds)


def fewest_or_none(house, stand, wish):
    try:
        return fewest(house, stand, wish)
    except NoPlace:
        return None


def enough(house, stand, wish, number):
    """Whether so many deeds are enough."""
    told = fewest_or_none(house, stand, wish)
    return told is not None and told <= number


def tasks(chance, many):
    """Tasks of all sizes, with places and shut pieces, as a seeded chance tells."""
    for _ in range(many):
        for most in (1, 3, GREAT - 5):
            yield great_task(chance, most)
            yield shut_task(chance, most)


class Saved(Asking):

    def test_a_room_of_a_shut_piece_saves_one(self):
        for room in range(7):
            for many in (1, 2, 7, 10 ** 6, GREAT - 1, GREAT):
                self.assert_tells(1 if room < 4 else 0, saved, HOUSE, STAND, WISH, room, many)

    def test_sizes_above_great(self):
        house = ((GREAT, GREAT, 1), 2)
        stand = ((GREAT, 0), (0, GREAT), (0, 0))
        wish = (stand[1], stand[0], stand[2])
        for many in (1, 2, GREAT):
            self.assertEqual((1, 1, 0), tuple(self.ask(saved, house, stand, wish, room, many) for room in range(3)))

    def test_from_a_stand_to_itself(self):
        for room in range(4):
            self.assert_tells(0, saved, FULL, FULL_STAND, FULL_STAND, room, 1)

    def test_just_in_rooms_of_shut_pieces(self):
        for house, stand, wish in tasks(random.Random(1), 30):
            shut = [room for rooms, kinds in shut_pieces(house, stand, wish) for room in rooms]
            for room in range(len(house[0])):
                self.assert_tells(int(room in shut), saved, house, stand, wish, room, 1)
                less = fewest(house, stand, wish) - fewest(wider(house, (room,), 3), stand, wish)
                self.assert_tells(less, saved, house, stand, wish, room, 3)

    def test_refused_as_fewest_ahead_of_all(self):
        for room, many in [(0, 1), (9, 0), (None, True)]:
            self.assert_refuses(Unlike, "kind", 4, saved, HOUSE, STAND, UNLIKE, room, many)
            self.assert_refuses(NoPlace, None, None, saved, FULL, FULL_STAND, FULL_WISH, room, many)

    def test_refused_room_then_number(self):
        for thing in [-1, 7, GREAT, 10 ** 59, *odd_things()]:
            self.assert_refuses(NoRoom, "room", thing, saved, HOUSE, STAND, WISH, thing, 1)
            self.assert_refuses(NoRoom, "room", thing, saved, HOUSE, STAND, WISH, thing, None)
        for thing in [0, -1, GREAT + 1, 10 ** 59, *odd_things()]:
            self.assert_refuses(NoNumber, "number", thing, saved, HOUSE, STAND, WISH, 6, thing)


class PlacesFor(Asking):

    def test_each_answer(self):
        self.assertEqual((6, 8), (too_many(STAND, WISH), fewest(HOUSE, STAND, WISH)))
        for number, told in [(0, None), (5, None), (6, (0, 1)), (7, (0,)), (8, ()), (9, ()), (10 ** 59, ())]:
            self.assert_tells(told, places_for, HOUSE, STAND, WISH, number)

    def test_no_place_in_the_house(self):
        for number, told in [(0, None), (3, None), (4, (0, 2)), (5, (0,)), (6, (0,)), (7, (0,)), (GREAT, (0,))]:
            self.assert_tells(told, places_for, FULL, FULL_STAND, FULL_WISH, number)

    def test_from_a_stand_to_itself(self):
        for number in (0, 1, GREAT):
            self.assert_tells((), places_for, FULL, FULL_STAND, FULL_STAND, number)
            self.assert_tells((), places_for, HOUSE, STAND, STAND, number)

    def test_as_few_as_can_be_in_small_houses(self):
        for house in [one for one in SMALL if len(one[0]) * sum(one[0]) < 17]:
            rooms = range(len(house[0]))
            choices = [row for many in range(len(rooms) + 1) for row in itertools.combinations(rooms, many)]
            for stand, wish in like_pairs(house):
                far = {row: fewest_or_none(wider(house, row), stand, wish) for row in choices}
                for number in range(too_many(stand, wish) + 4):
                    fitting = [row for row in choices if far[row] is not None and far[row] <= number]
                    told = places_for(house, stand, wish, number)
                    self.assertEqual(not fitting, told is None)
                    if fitting:
                        self.assertIn(told, fitting)
                        self.assertEqual(len(fitting[0]), len(told))

    def test_by_first_rooms_of_first_shut_pieces(self):
        for house, stand, wish in tasks(random.Random(2), 30):
            firsts = tuple(rooms[0] for rooms, kinds in shut_pieces(house, stand, wish))
            for many in range(len(firsts) + 1):
                number = fewest(house, stand, wish) - many
                self.assert_tells(firsts[:many], places_for, house, stand, wish, number)
                self.assertTrue(enough(wider(house, firsts[:many]), stand, wish, number))
            if too_many(stand, wish):
                self.assert_tells(None, places_for, house, stand, wish, too_many(stand, wish) - 1)

    def test_unlike_then_no_number(self):
        for thing in [-1, -GREAT, -(10 ** 59), *odd_things()]:
            self.assert_refuses(Unlike, "kind", 4, places_for, HOUSE, STAND, UNLIKE, thing)
            self.assert_refuses(NoNumber, "number", thing, places_for, HOUSE, STAND, WISH, thing)
            self.assert_refuses(NoNumber, "number", thing, places_for, FULL, FULL_STAND, FULL_WISH, thing)
            self.assert_refuses(NoNumber, "number", thing, places_for, FULL, FULL_STAND, FULL_STAND, thing)


class OneKind(Asking):

    def test_numbers_behind_are_one_less(self):
        house = ((20, 30), 4)
        stand = ((1, 2, 3, 4), (5, 6, 7, 8))
        for one, other, told in [
            (0, 1, ((3, 3, 4), (11, 7, 8))), (0, 2, ((4, 2, 4), (12, 6, 8))), (0, 3, ((5, 2, 3), (13, 6, 7))),
            (1, 2, ((1, 5, 4), (5, 13, 8))), (1, 3, ((1, 6, 3), (5, 14, 7))), (2, 3, ((1, 2, 7), (5, 6, 15))),
        ]:
            self.assert_tells((((20, 30), 3), told), one_kind, house, stand, one, other)

    def test_two_kinds(self):
        self.assert_tells((((3, 1), 1), ((3,), (0,))), one_kind, ((3, 1), 2), ((1, 2), (0, 0)), 0, 1)

    def test_never_farther(self):
        for house, stand, wish in tasks(random.Random(3), 20):
            for one, other in itertools.combinations(range(house[1]), 2):
                less, here = self.ask(one_kind, house, stand, one, other)
                same, there = self.ask(one_kind, house, wish, one, other)
                self.assertEqual(less, same)
                self.assertTrue(is_house(less) and is_stand(less, here) and is_stand(less, there))
                self.assertEqual(places(house, stand), places(less, here))
                self.assertLessEqual(fewest(less, here, there), fewest(house, stand, wish))

    def test_never_farther_in_small_houses(self):
        for house in [((2, 1, 1), 2), ((1, 2), 3), ((1, 1, 1), 3)]:
            for stand, wish in like_pairs(house):
                for one, other in itertools.combinations(range(house[1]), 2):
                    less, here = one_kind(house, stand, one, other)
                    there = one_kind(house, wish, one, other)[1]
                    ahead = fewest_or_none(house, stand, wish)
                    if ahead is not None:
                        self.assertLessEqual(fewest(less, here, there), ahead)


class OneRoom(Asking):

    def test_numbers_behind_are_one_less(self):
        house = ((10, 20, 30, 40), 2)
        a, b, c, d = stand = ((1, 2), (3, 4), (5, 6), (7, 8))
        for one, other, sizes, told in [
            (0, 1, (30, 30, 40), ((4, 6), c, d)), (0, 2, (40, 20, 40), ((6, 8), b, d)),
            (0, 3, (50, 20, 30), ((8, 10), b, c)), (1, 2, (10, 50, 40), (a, (8, 10), d)),
            (1, 3, (10, 60, 30), (a, (10, 12), c)), (2, 3, (10, 20, 70), (a, b, (12, 14))),
        ]:
            self.assert_tells(((sizes, 2), told), one_room, house, stand, one, other)

    def test_two_rooms(self):
        self.assert_tells((((3,), 1), ((2,),)), one_room, ((2, 1), 1), ((1,), (1,)), 0, 1)

    def test_too_great(self):
        stand = ((1,), (2,), (3,))
        for low, high in [(1, GREAT), (GREAT, 1), (GREAT, GREAT), (GREAT // 2, GREAT // 2 + 1)]:
            self.assert_refuses(TooGreat, None, None, one_room, ((low + 2, 9, high + 3), 1), stand, 0, 2)
            self.assert_refuses(TooGreat, None, None, one_room, ((9, low, high), 1), ((0,),) * 3, 1, 2)
        for low in (1, 5, GREAT // 2, GREAT - 1):
            house = ((9, low, GREAT - low), 1)
            self.assert_tells((((9, GREAT), 1), ((1,), (0,))), one_room, house, ((1,), (0,), (0,)), 1, 2)

    def test_never_farther(self):
        for house, stand, wish in tasks(random.Random(4), 20):
            for one, other in itertools.combinations(range(len(house[0])), 2):
                if house[0][one] + house[0][other] > GREAT:
                    self.assert_refuses(TooGreat, None, None, one_room, house, stand, one, other)
                    continue
                less, here = self.ask(one_room, house, stand, one, other)
                same, there = self.ask(one_room, house, wish, one, other)
                self.assertEqual(less, same)
                self.assertTrue(is_house(less) and is_stand(less, here) and is_stand(less, there))
                self.assertEqual(things(stand), things(here))
                self.assertLessEqual(fewest(less, here, there), fewest(house, stand, wish))

    def test_never_farther_in_small_houses(self):
        for house in [((2, 1, 1), 2), ((1, 1, 1), 3), ((1, 1, 2, 1), 2)]:
            for stand, wish in like_pairs(house):
                for one, other in itertools.combinations(range(len(house[0])), 2):
                    less, here = one_room(house, stand, one, other)
                    there = one_room(house, wish, one, other)[1]
                    ahead = fewest_or_none(house, stand, wish)
                    if ahead is not None:
                        self.assertLessEqual(fewest(less, here, there), ahead)


class Without(Asking):

    house = ((2, 3, 4, 5), 2)
    stand = ((1, 0), (2, 1), (0, 4), (1, 1))
    wish = ((1, 0), (1, 2), (0, 4), (2, 0))

    def test_none(self):
        self.assert_tells((self.house, self.stand, self.wish), without, self.house, self.stand, self.wish, ())
        self.assert_tells((((2,), 1), ((1,),), ((1,),)), without, ((2,), 1), ((1,),), ((1,),), ())

    def test_some(self):
        told = (((3, 4, 5), 2), self.stand[1:], self.wish[1:])
        self.assert_tells(told, without, self.house, self.stand, self.wish, (0,))
        told = (((2, 3, 5), 2), (*self.stand[:2], self.stand[3]), (*self.wish[:2], self.wish[3]))
        self.assert_tells(told, without, self.house, self.stand, self.wish, (2,))
        told = (((3, 5), 2), self.stand[1::2], self.wish[1::2])
        self.assert_tells(told, without, self.house, self.stand, self.wish, (0, 2))

    def test_all_but_one(self):
        for room in range(4):
            others = tuple(other for other in range(4) if other != room)
            told = (((self.house[0][room],), 2), (self.stand[room],), (self.stand[room],))
            self.assert_tells(told, without, self.house, self.stand, self.stand, others)

    def test_the_first_of_these_where_something_is_amiss(self):
        for rooms, room in [
            ((1,), 1), ((3,), 3), ((0, 1), 1), ((1, 3), 1), ((0, 3), 3), ((0, 1, 2), 1), ((0, 2, 3), 3), ((1, 2, 3), 1),
        ]:
            with self.assertRaises(Needed) as caught:
                without(self.house, self.stand, self.wish, rooms)
            self.assertEqual((room, int), (caught.exception.room, type(caught.exception.room)))
            self.assert_refuses(Needed, "room", room, without, self.house, self.stand, self.wish, rooms)

    def test_no_less_far_without_rooms_that_are_right(self):
        for house, stand, wish in tasks(random.Random(5), 20):
            right = tuple(room for room in range(len(stand)) if stand[room] == wish[room])[:len(stand) - 1]
            told = self.ask(without, house, stand, wish, right)
            self.assertEqual(len(stand) - len(right), len(told[1]))
            behind = fewest_or_none(*told)
            if behind is not None:
                self.assertEqual(fewest(house, stand, wish), behind)


class Filled(Asking):

    def test_each_room_in_turn(self):
        for house, stand, wish in tasks(random.Random(6), 20):
            for room in range(len(house[0])):
                asked = (*wish[:room], None, *wish[room + 1:])
                self.assert_tells(wish, filled, house, stand, asked)

    def test_what_is_left_over(self):
        house = ((5, 5), 2)
        stand = ((3, 1), (0, 2))
        self.assert_tells(((3, 0), (0, 3)), filled, house, stand, ((3, 0), None))
        self.assert_tells(((0, 2), (3, 1)), filled, house, stand, (None, (3, 1)))
        self.assert_tells(((2, 3), (1, 0)), filled, house, stand, (None, (1, 0)))
        self.assert_tells(((0, 0), (3, 3)), filled, ((5, 6), 2), stand, ((0, 0), None))

    def test_one_room_alone(self):
        self.assert_tells(((2, 1),), filled, ((5,), 2), ((2, 1),), (None,))

    def test_unlike_with_the_first_kind(self):
        house = ((9, 9, 9), 3)
        stand = ((1, 2, 3), (0, 0, 0), (0, 0, 0))
        self.assert_refuses(Unlike, "kind", 0, filled, house, stand, (None, (2, 0, 4), (0, 3, 0)))
        self.assert_refuses(Unlike, "kind", 1, filled, house, stand, ((0, 3, 4), None, (0, 0, 0)))
        self.assert_refuses(Unlike, "kind", 2, filled, house, stand, ((1, 2, 2), (0, 0, 2), None))

    def test_unlike_then_full(self):
        house = ((2, 9), 2)
        stand = ((1, 1), (3, 3))
        self.assert_refuses(Unlike, "kind", 1, filled, house, stand, (None, (0, 5)))
        self.assert_refuses(Full, "room", 0, filled, house, stand, (None, (2, 3)))
        self.assert_tells(((2, 0), (2, 4)), filled, house, stand, (None, (2, 4)))
        self.assert_refuses(Full, "room", 1, filled, ((2, 6), 2), stand, ((0, 0), None))

    def test_full_at_the_bound(self):
        house = ((GREAT, GREAT), 1)
        self.assert_tells(((GREAT,), (0,)), filled, house, ((1,), (GREAT - 1,)), (None, (0,)))
        self.assert_refuses(Full, "room", 0, filled, house, ((2,), (GREAT - 1,)), (None, (0,)))


if __name__ == "__main__":
    unittest.main()
