"""A plan of fewest deeds [17], [18], and what [3] says of it."""

import random
import unittest

from asking import (
    GREAT, SMALL, Asking, beats_from, done, grown, great_task, like_pairs, played, shut_task, stands_of
)
from fullrooms.errors import NoPlace, Unlike
from fullrooms.fewest import fewest
from fullrooms.trails import plan


def is_number(thing, low, high):
    return type(thing) is int and low <= thing <= high


def ring(rooms, many):
    """A house of rooms with so many things of their own kind each, a last one with one place, and a stand."""
    stand = tuple(tuple(many if kind == room else 0 for kind in range(rooms)) for room in range(rooms))
    return ((many,) * rooms + (1,), rooms), (*stand, (0,) * rooms)


class Planning(Asking):
    """Looks at a told plan by the words of [17] and [18]."""

    def assert_form(self, house, told):
        sizes, kinds = house
        self.assertIs(tuple, type(told))
        self.assertLessEqual(len(told), 600)
        for row in told:
            self.assertIs(tuple, type(row))
            many, deeds = row
            self.assertTrue(is_number(many, 1, GREAT), row)
            self.assertIs(tuple, type(deeds))
            self.assertTrue(1 <= len(deeds) <= 20, row)
            for deed in deeds:
                self.assertIs(tuple, type(deed))
                kind, here, there = deed
                self.assertTrue(is_number(kind, 0, kinds - 1), row)
                self.assertTrue(is_number(here, 0, len(sizes) - 1) and is_number(there, 0, len(sizes) - 1), row)
                self.assertNotEqual(here, there)

    def look_over(self, house, stand, wish, deeds):
        """Hold the plan against its words; it must have so many deeds."""
        told = plan(house, stand, wish)
        self.assert_form(house, told)
        self.assertEqual(wish, played(house, stand, told), (house, stand, wish, told))
        self.assertEqual(deeds, sum(many * len(row) for many, row in told), (house, stand, wish, told))
        return told


class Plan(Planning):

    def test_one_deed(self):
        self.assert_tells(((1, ((0, 0, 1),)),), plan, ((1, 1), 1), ((1,), (0,)), ((0,), (1,)))

    def test_from_a_stand_to_itself(self):
        for house in SMALL:
            for stand in stands_of(house):
                self.assert_tells((), plan, house, stand, stand)
        full = ((GREAT - 5, 1, 1, 1, 1, 1),) * 8
        self.assert_tells((), plan, ((GREAT,) * 8, 6), full, full)

    def test_asked_twice_and_nothing_changed(self):
        chance = random.Random(1)
        for _ in range(100):
            self.ask(plan, *great_task(chance, 5))
            self.ask(plan, *shut_task(chance, 5))

    def test_few_things(self):
        house = ((2, 2, 3), 2)
        stand = ((2, 0), (0, 2), (1, 0))
        self.look_over(house, stand, ((1, 1), (1, 1), (1, 0)), 3)
        self.look_over(house, stand, ((0, 2), (2, 0), (1, 0)), 5)
        self.look_over(house, stand, ((0, 0), (0, 2), (3, 0)), 2)
        self.look_over(house, stand, ((0, 1), (2, 0), (1, 1)), 4)

    def test_great_amounts(self):
        house = ((GREAT, GREAT, 1), 2)
        stand = ((GREAT, 0), (0, GREAT), (0, 0))
        self.look_over(house, stand, (stand[1], stand[0], stand[2]), 2 * GREAT + 1)
        self.look_over(house, stand, ((0, GREAT), (GREAT - 1, 0), (1, 0)), 2 * GREAT)
        self.look_over(((GREAT, GREAT), 1), ((GREAT,), (0,)), ((0,), (GREAT,)), GREAT)

    def test_rings_of_rooms(self):
        for rooms in range(2, 7):
            for many in (1, 2, 7, GREAT):
                house, stand = ring(rooms, many)
                on = (*stand[1:-1], stand[0], stand[-1])
                self.look_over(house, stand, on, rooms * many + 1)
                self.look_over(house, on, stand, rooms * many + 1)
                wide = (house[0][:1] + (min(GREAT, many + 1),) + house[0][2:], rooms)
                self.look_over(wide, stand, on, rooms * many + (many == GREAT))

    def test_shut_pieces_beside_pieces_with_a_place(self):
        for many in (1, 3, GREAT):
            house, stand = ring(6, many)
            pairs = (stand[1], stand[0], stand[3], stand[2], stand[5], stand[4], stand[6])
            self.look_over(house, stand, pairs, 6 * many + 3)
            if many < GREAT:
                wide = (house[0][:2] + (many + 1,) + house[0][3:], 6)
                self.look_over(wide, stand, pairs, 6 * many + 2)
                wide = ((many + 1,) * 7, 6)
                self.look_over(wide, stand, pairs, 6 * many)

    def test_one_place_in_all_that_must_go_through_each_room(self):
        # What goes into the last room, which alone has a place, makes room for the next one.
        for many in (1, 4, GREAT - 1):
            sizes = (many,) * 5 + (many + 1,)
            stand = tuple(tuple(many if kind == room else 0 for kind in range(6)) for room in range(6))
            self.look_over((sizes, 6), stand, (*stand[1:], stand[0]), 6 * many)

    def test_rings_that_meet_in_one_room(self):
        # Kinds 0 and 1 change places between rooms 0 and 1, kinds 2 and 3 between 1 and 2, 4 and 5 between 2 and 3.
        rows = [(2, 0, 0, 0, 0, 0), (0, 3, 2, 0, 0, 0), (0, 0, 0, 2, 3, 0), (0, 0, 0, 0, 0, 3), (0,) * 6]
        wish = [(0, 2, 0, 0, 0, 0), (2, 1, 0, 2, 0, 0), (0, 0, 2, 0, 0, 3), (0, 0, 0, 0, 3, 0), (0,) * 6]
        stand, wish = tuple(rows), tuple(wish)
        # All hang together by the rooms between them: they are one piece.
        self.look_over(((2, 5, 5, 3, 1), 6), stand, wish, 14 + 1)
        for sizes in [(3, 5, 5, 3, 1), (2, 6, 5, 3, 1), (2, 5, 6, 3, 1), (2, 5, 5, 4, 1), (3, 6, 6, 4, 1)]:
            self.look_over((sizes, 6), stand, wish, 14)

    def test_a_kind_between_two_closed_parts(self):
        stand = ((1, 0, 0), (0, 1, 0), (1, 0, 0), (0, 0, 1), (0, 0, 0))
        wish = ((0, 1, 0), (1, 0, 0), (0, 0, 1), (1, 0, 0), (0, 0, 0))
        self.look_over(((1, 1, 1, 1, 1), 3), stand, wish, 5)

    def test_full_sizes_of_eight_rooms_and_six_kinds(self):
        wide = ((GREAT,) * 8, 6)
        rows = [tuple(GREAT if kind == room else 0 for kind in range(6)) for room in range(6)]
        empty = ((0,) * 6,) * 2
        self.look_over(wide, (*rows, *empty), (*rows[1:], rows[0], *empty), 6 * GREAT + 1)
        self.look_over(wide, (*rows, *empty), (
            rows[1], rows[0], rows[3], rows[2], rows[5], rows[4], *empty), 6 * GREAT + 3)
        self.look_over(wide, (*rows, *empty), (*empty, *rows), 6 * GREAT)


class BeatByBeat(Planning):

    def test_all_stands_of_small_houses(self):
        for house in SMALL:
            beats = {}
            for stand, wish in like_pairs(house):
                if stand not in beats:
                    beats[stand] = beats_from(house, stand)
                if wish in beats[stand]:
                    self.look_over(house, stand, wish, beats[stand][wish])
                else:
                    self.assert_refuses(NoPlace, None, None, plan, house, stand, wish)

    def test_from_stands_of_wider_houses(self):
        told = [
            (((1,) * 5, 4), ((1, 0, 0, 0), (0, 1, 0, 0), (0, 0, 1, 0), (0, 0, 0, 1), (0, 0, 0, 0))),
            (((1,) * 7, 2), ((1, 0), (0, 1), (1, 0), (0, 1), (1, 0), (0, 1), (0, 0))),
            (((2, 2, 2, 1), 3), ((1, 1, 0), (0, 1, 1), (1, 0, 1), (0, 0, 0))),
            (((3, 2, 1, 2), 2), ((2, 1), (0, 2), (1, 0), (1, 0))),
        ]
        for house, stand in told:
            for wish, beat in beats_from(house, stand).items():
                self.look_over(house, stand, wish, beat)
                self.look_over(house, wish, stand, beat)


class ByChance(Planning):

    def test_few_things_done_deed_by_deed(self):
        chance = random.Random(2)
        for _ in range(400):
            house = (tuple(chance.randrange(1, 4) for _ in range(chance.randrange(2, 9))), chance.randrange(1, 7))
            stand, wish = grown(chance, house, sum(house[0]) - chance.choice([1, 1, 3]), 2)
            told = self.look_over(house, stand, wish, fewest(house, stand, wish))
            for many, deeds in told:
                for deed in deeds * many:
                    stand = done(house, stand, deed)
            self.assertEqual(wish, stand)

    def test_amounts_of_all_sizes(self):
        chance = random.Random(3)
        for most in (1, 2, 5, 40, 10 ** 6, GREAT):
            for _ in range(200):
                house, stand, wish = great_task(chance, most)
                self.look_over(house, stand, wish, fewest(house, stand, wish))
                house, stand, wish = shut_task(chance, most)
                self.look_over(house, stand, wish, fewest(house, stand, wish))


class Refused(Planning):

    def test_the_first_unlike_kind(self):
        house = ((9, 9), 3)
        stand = ((1, 2, 3), (1, 0, 0))
        self.assert_refuses(Unlike, "kind", 0, plan, house, stand, ((1, 2, 3), (0, 0, 0)))
        self.assert_refuses(Unlike, "kind", 1, plan, house, stand, ((2, 1, 0), (0, 0, 3)))
        self.assert_refuses(Unlike, "kind", 2, plan, house, stand, ((0, 1, 4), (2, 1, 0)))

    def test_unlike_ahead_of_no_place(self):
        house = ((1, 1), 2)
        self.assert_refuses(Unlike, "kind", 0, plan, house, ((1, 0), (0, 1)), ((0, 1), (0, 1)))
        self.assert_refuses(Unlike, "kind", 1, plan, house, ((1, 0), (0, 1)), ((1, 0), (0, 0)))

    def test_no_place(self):
        self.assert_refuses(NoPlace, None, None, plan, ((1, 1), 2), ((1, 0), (0, 1)), ((0, 1), (1, 0)))
        house = ((GREAT, GREAT), 2)
        stand = ((GREAT, 0), (1, GREAT - 1))
        self.assert_refuses(NoPlace, None, None, plan, house, stand, ((GREAT - 1, 1), (2, GREAT - 2)))


if __name__ == "__main__":
    unittest.main()
