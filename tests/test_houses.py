"""Houses, stands and deeds by their forms [4], [5], [6]; places and things."""

import itertools
import unittest

from asking import Asking, odd_things, spoilt, stands_of
from fullrooms.houses import is_deed, is_house, is_stand, places, things

GREAT = 10 ** 12
WIDEST = ((GREAT,) * 8, 6)
SMALLEST = ((1,), 1)


class IsHouse(Asking):

    def test_houses(self):
        for rooms in range(1, 9):
            for kinds in range(1, 7):
                for size in (1, 2, 7, GREAT - 1, GREAT):
                    self.assert_tells(True, is_house, ((size,) * rooms, kinds))
        self.assert_tells(True, is_house, ((1, GREAT, 3), 2))

    def test_how_many_rooms(self):
        self.assert_tells(False, is_house, ((), 1))
        self.assert_tells(False, is_house, ((1,) * 9, 1))
        self.assert_tells(False, is_house, ((1,) * 1000, 1))

    def test_how_many_kinds(self):
        for kinds in (0, 7, -1, 10 ** 59, *odd_things()):
            self.assert_tells(False, is_house, ((1, 2), kinds))

    def test_each_size(self):
        for size in (0, -1, GREAT + 1, -GREAT, 10 ** 59, *odd_things()):
            for at in range(3):
                sizes = (1, 5, GREAT)
                self.assert_tells(False, is_house, (sizes[:at] + (size,) + sizes[at + 1:], 2))

    def test_sizes_are_a_tuple(self):
        for sizes in [[1, 2], {0: 1}, "12", 12, None, True, *odd_things()]:
            if sizes not in [(1,), (1, 2, 3)]:
                self.assert_tells(False, is_house, (sizes, 2))

    def test_a_house_is_a_pair(self):
        for thing in [
            [(1, 2), 2], ((1, 2),), ((1, 2), 2, 2), ((1, 2), 2, None), (2, (1, 2)), ((1, 2), (2,)),
            (((1, 2), 2),), {0: (1, 2), 1: 2}, {(1, 2): 2}, ((1, 2), 2, (1, 2), 2),
        ]:
            self.assert_tells(False, is_house, thing)

    def test_anything_else(self):
        for thing in [0, 1, 2, -1, 10 ** 59, *odd_things()]:
            self.assert_tells(thing == ((1,), 1) and isinstance(thing, tuple), is_house, thing)

    def test_true_is_no_1(self):
        self.assert_tells(True, is_house, SMALLEST)
        self.assert_tells(False, is_house, ((True,), 1))
        self.assert_tells(False, is_house, ((1,), True))


class IsStand(Asking):

    def test_stands_and_no_stands_of_small_houses(self):
        for sizes, kinds in [((1,), 1), ((3,), 2), ((1, 2), 2), ((2, 1, 1), 1), ((2,), 3)]:
            rows = list(itertools.product(range(-1, max(sizes) + 2), repeat=kinds))
            for stand in itertools.product(rows, repeat=len(sizes)):
                fits = all(min(row) >= 0 and sum(row) <= size for row, size in zip(stand, sizes))
                self.assert_tells(fits, is_stand, (sizes, kinds), stand)

    def test_one_thing_more_than_its_size(self):
        house = ((3, GREAT), 2)
        self.assert_tells(True, is_stand, house, ((1, 2), (GREAT - 1, 1)))
        self.assert_tells(False, is_stand, house, ((2, 2), (GREAT - 1, 1)))
        self.assert_tells(False, is_stand, house, ((1, 2), (GREAT, 1)))
        self.assert_tells(False, is_stand, house, ((1, 3), (0, 0)))
        self.assert_tells(False, is_stand, house, ((4, 0), (0, 0)))
        self.assert_tells(False, is_stand, house, ((0, 0), (GREAT + 1, 0)))

    def test_too_few_of_one_do_not_make_up_for_too_many_of_another(self):
        self.assert_tells(False, is_stand, ((3,), 2), ((4, -1),))
        self.assert_tells(False, is_stand, ((3,), 2), ((-1, 4),))
        self.assert_tells(False, is_stand, ((3,), 2), ((-1, 1),))

    def test_widest_and_smallest(self):
        self.assert_tells(True, is_stand, WIDEST, ((0,) * 6,) * 8)
        self.assert_tells(True, is_stand, WIDEST, ((GREAT - 5, 1, 1, 1, 1, 1),) * 8)
        self.assert_tells(False, is_stand, WIDEST, ((GREAT - 4, 1, 1, 1, 1, 1),) * 8)
        self.assert_tells(True, is_stand, SMALLEST, ((0,),))
        self.assert_tells(True, is_stand, SMALLEST, ((1,),))
        self.assert_tells(False, is_stand, SMALLEST, ((2,),))

    def test_true_is_no_1(self):
        self.assert_tells(False, is_stand, SMALLEST, ((True,),))
        self.assert_tells(False, is_stand, SMALLEST, ((False,),))
        self.assert_tells(False, is_stand, ((2, 2), 2), ((0, 1), (0, True)))
        self.assert_tells(False, is_stand, ((2, 2), 2), ((False, 1), (0, 1)))

    def test_something_put_otherwise(self):
        house = ((9, 9, 9), 2)
        stand = ((2, 3), (4, 5), (0, 1))
        self.assert_tells(True, is_stand, house, stand)
        for thing in spoilt(stand):
            self.assert_tells(False, is_stand, house, thing)

    def test_rows_and_numbers_more_or_fewer(self):
        house = ((9, 9), 2)
        for thing in [
            ((1, 1),), ((1, 1),) * 3, ((1,), (1, 1)), ((1, 1), (1,)), ((1, 1, 0), (1, 1)), ((1, 1), (1, 1, 0)),
            ((1, 1), ()), ((), (1, 1)), (), ((), ()), [(1, 1), (1, 1)], ([1, 1], (1, 1)), ((1, 1), [1, 1]),
        ]:
            self.assert_tells(False, is_stand, house, thing)

    def test_a_stand_of_another_house(self):
        houses = [((1,), 1), ((1, 1), 1), ((1,), 2), ((1, 1), 2), ((1, 1, 1), 1)]
        for one in houses:
            for other in houses:
                for stand in stands_of(other):
                    self.assert_tells(one == other, is_stand, one, stand)

    def test_anything_else(self):
        for thing in [0, 1, 10 ** 59, *odd_things()]:
            self.assert_tells(False, is_stand, ((1, 1), 2), thing)
            self.assert_tells(False, is_stand, ((5, 5, 5), 1), thing)


class IsDeed(Asking):

    def test_deeds_and_no_deeds(self):
        for rooms, kinds in [(1, 1), (2, 1), (1, 6), (3, 2), (8, 6)]:
            house = ((1,) * rooms, kinds)
            for kind in range(-1, kinds + 1):
                for here in range(-1, rooms + 1):
                    for there in range(-1, rooms + 1):
                        fits = 0 <= kind < kinds and 0 <= here < rooms and 0 <= there < rooms and here != there
                        self.assert_tells(fits, is_deed, house, (kind, here, there))

    def test_a_house_with_one_room_has_none(self):
        self.assert_tells(False, is_deed, SMALLEST, (0, 0, 0))
        self.assert_tells(False, is_deed, SMALLEST, (0, 0, 1))

    def test_something_put_otherwise(self):
        house = ((9, 9, 9), 3)
        for deed in [(1, 0, 1), (0, 2, 0), (2, 1, 2)]:
            self.assert_tells(True, is_deed, house, deed)
            for thing in spoilt(deed):
                self.assert_tells(False, is_deed, house, thing)

    def test_true_is_no_1(self):
        house = ((9, 9), 2)
        self.assert_tells(True, is_deed, house, (1, 1, 0))
        self.assert_tells(False, is_deed, house, (True, 1, 0))
        self.assert_tells(False, is_deed, house, (1, True, 0))
        self.assert_tells(False, is_deed, house, (1, 1, False))
        self.assert_tells(False, is_deed, house, (1, 0, True))

    def test_odd_things_within(self):
        for thing in [-1, 2, GREAT, 10 ** 59, *odd_things()]:
            self.assert_tells(False, is_deed, ((9, 9), 2), (thing, 0, 1))
            self.assert_tells(False, is_deed, ((9, 9), 2), (1, thing, 1))
            self.assert_tells(False, is_deed, ((9, 9), 2), (1, 0, thing))

    def test_a_deed_of_another_house(self):
        self.assert_tells(True, is_deed, ((1,) * 8, 6), (5, 7, 6))
        self.assert_tells(False, is_deed, ((1,) * 7, 6), (5, 7, 6))
        self.assert_tells(False, is_deed, ((1,) * 7, 6), (5, 6, 7))
        self.assert_tells(False, is_deed, ((1,) * 8, 5), (5, 7, 6))

    def test_it_need_not_be_one_that_can_be_done(self):
        self.assert_tells(True, is_deed, ((1, 1), 1), (0, 0, 1))

    def test_anything_else(self):
        for thing in [0, 1, 10 ** 59, *odd_things()]:
            self.assert_tells(False, is_deed, ((9, 9, 9), 3), thing)


class PlacesAndThings(Asking):

    def test_places(self):
        self.assert_tells((0, 3, 4), places, ((3, 3, 9), 2), ((1, 2), (0, 0), (5, 0)))
        self.assert_tells((1,), places, SMALLEST, ((0,),))
        self.assert_tells((0,), places, SMALLEST, ((1,),))
        self.assert_tells((7,), places, ((10,), 6), ((1, 0, 1, 0, 1, 0),))

    def test_places_of_great_numbers(self):
        self.assert_tells((GREAT,) * 8, places, WIDEST, ((0,) * 6,) * 8)
        self.assert_tells((0,) * 8, places, WIDEST, ((GREAT - 5, 1, 1, 1, 1, 1),) * 8)
        self.assert_tells((1, GREAT - 1), places, ((GREAT, GREAT), 1), ((GREAT - 1,), (1,)))

    def test_things(self):
        self.assert_tells((6, 2), things, ((1, 2), (0, 0), (5, 0)))
        self.assert_tells((0,), things, ((0,),))
        self.assert_tells((0, 0, 0), things, ((0, 0, 0), (0, 0, 0)))
        self.assert_tells((1, 2, 3, 4, 5, 6), things, ((1, 2, 3, 4, 5, 6),))
        self.assert_tells((10,), things, ((1,), (2,), (3,), (4,)))

    def test_things_of_great_numbers(self):
        self.assert_tells((8 * GREAT - 40, 8, 8, 8, 8, 8), things, ((GREAT - 5, 1, 1, 1, 1, 1),) * 8)

    def test_together_they_fill_the_house(self):
        house = ((2, 1, 3), 2)
        for stand in stands_of(house):
            self.assertEqual(6, sum(self.ask(places, house, stand)) + sum(self.ask(things, stand)))


if __name__ == "__main__":
    unittest.main()
