"""Deeds that lead on [21], stands between [22], and what [3] says of them."""

import itertools
import random
import unittest

from asking import SMALL, Asking, beats_from, done, great_task, grown, odd_things, shut_task, stands_of
from fullrooms.errors import Full, Lacks, NoKind, NoPlace, NoRoom, Unlike
from fullrooms.fewest import fewest
from fullrooms.houses import deeds_at, moved
from fullrooms.leading import costs, first_towards, is_between, leads

# A shut piece of rooms 0 and 1, and room 2, which has two places.
HOUSE = ((2, 2, 3), 2)
STAND = ((2, 0), (0, 2), (1, 0))
WISH = ((1, 1), (1, 1), (1, 0))
# Two shut pieces: rooms 0 and 1 with kinds 0 and 1, rooms 2 and 3 with kinds 2 and 3. Room 0 has a thing of kind 2.
TWO_SHUT = ((2, 1, 1, 1, 1), 4)
TWO_STAND = ((1, 0, 1, 0), (0, 1, 0, 0), (0, 0, 1, 0), (0, 0, 0, 1), (0, 0, 0, 0))
TWO_WISH = ((0, 1, 1, 0), (1, 0, 0, 0), (0, 0, 0, 1), (0, 0, 1, 0), (0, 0, 0, 0))


def all_deeds(house):
    """All deeds of a house, rising, whether they can be done or not."""
    rooms = range(len(house[0]))
    return [deed for deed in itertools.product(range(house[1]), rooms, rooms) if deed[1] != deed[2]]


def leads_by_beats(house, stand, beats):
    """The deeds behind which the wish, of which the beats tell how far it is, is one beat less far."""
    behind = [(deed, done(house, stand, deed)) for deed in all_deeds(house)]
    return tuple(deed for deed, one in behind if one is not None and beats[one] == beats[stand] - 1)


class Costs(Asking):

    def test_one_less(self):
        self.assert_tells(-1, costs, ((1, 1), 1), ((1,), (0,)), ((0,), (1,)), (0, 0, 1))
        self.assert_tells(-1, costs, HOUSE, STAND, WISH, (0, 0, 2))
        self.assert_tells(-1, costs, HOUSE, STAND, WISH, (1, 1, 2))

    def test_as_far(self):
        self.assert_tells(0, costs, ((2, 2, 2), 1), ((2,), (0,), (0,)), ((0,), (2,), (0,)), (0, 0, 2))

    def test_one_more(self):
        # The thing aside goes back to where it was too many.
        self.assert_tells(1, costs, HOUSE, ((1, 0), (0, 2), (2, 0)), WISH, (0, 2, 0))
        self.assert_tells(1, costs, ((1, 1), 1), ((1,), (0,)), ((1,), (0,)), (0, 0, 1))
        self.assert_tells(1, costs, ((2, 2, 2), 2), ((2, 0), (0, 1), (0, 0)), ((0, 0), (2, 1), (0, 0)), (1, 1, 2))

    def test_a_deed_that_opens_two_shut_pieces(self):
        self.assertEqual(6, fewest(TWO_SHUT, TWO_STAND, TWO_WISH))
        self.assert_tells(-1, costs, TWO_SHUT, TWO_STAND, TWO_WISH, (2, 0, 4))
        self.assertEqual(5, beats_from(TWO_SHUT, moved(TWO_SHUT, TWO_STAND, (2, 0, 4)))[TWO_WISH])

    def test_a_deed_that_has_nothing_to_do_with_what_is_too_many(self):
        house = ((1, 1, 2, 2), 3)
        stand = ((1, 0, 0), (0, 1, 0), (0, 0, 2), (0, 0, 0))
        wish = ((0, 1, 0), (1, 0, 0), (0, 0, 2), (0, 0, 0))
        self.assert_tells(1, costs, house, stand, wish, (2, 2, 3))
        # A thing that stands right, but in a shut piece: one more too many, and the piece is open.
        house = ((2, 1, 1), 3)
        stand = ((1, 0, 1), (0, 1, 0), (0, 0, 0))
        self.assert_tells(0, costs, house, stand, ((0, 1, 1), (1, 0, 0), (0, 0, 0)), (2, 0, 2))

    def test_great_numbers(self):
        chance = random.Random(1)
        for _ in range(100):
            for house, stand, wish in (great_task(chance), shut_task(chance)):
                for deed in chance.sample(deeds_at(house, stand), min(5, len(deeds_at(house, stand)))):
                    told = self.ask(costs, house, stand, wish, deed)
                    self.assertIn(told, (-1, 0, 1))
                    self.assertEqual(deed in leads(house, stand, wish), told == -1)

    def test_refused_as_fewest_ahead_of_all(self):
        for deed in [(0, 0, 1), (9, 9, 9), (None, True, [])]:
            self.assert_refuses(Unlike, "kind", 1, costs, HOUSE, STAND, ((2, 0), (0, 1), (1, 0)), deed)
            self.assert_refuses(NoPlace, None, None, costs, ((1, 1), 2), ((1, 0), (0, 1)), ((0, 1), (1, 0)), deed)

    def test_refused_as_moved(self):
        for thing in [-1, 2, 10 ** 59, *odd_things()]:
            self.assert_refuses(NoKind, "kind", thing, costs, HOUSE, STAND, WISH, (thing, 9, 9))
        for thing in [-1, 3, 10 ** 59, *odd_things()]:
            self.assert_refuses(NoRoom, "room", thing, costs, HOUSE, STAND, WISH, (0, thing, 9))
            self.assert_refuses(NoRoom, "room", thing, costs, HOUSE, STAND, WISH, (0, 0, thing))
        self.assert_refuses(NoRoom, "room", 1, costs, HOUSE, STAND, WISH, (0, 1, 1))
        self.assert_refuses(Lacks, "room", 2, costs, HOUSE, STAND, WISH, (1, 2, 0))
        self.assert_refuses(Full, "room", 0, costs, HOUSE, STAND, WISH, (0, 2, 0))
        full = ((1, 0), (0, 1))
        self.assert_refuses(Full, "room", 1, costs, ((1, 1), 2), full, full, (0, 0, 1))


class Leads(Asking):

    def test_just_those_that_lead_on(self):
        self.assert_tells(((0, 0, 1),), leads, ((1, 1), 1), ((1,), (0,)), ((0,), (1,)))
        self.assert_tells(((0, 0, 2), (1, 1, 2)), leads, HOUSE, STAND, WISH)
        self.assert_tells(((1, 1, 0),), leads, HOUSE, ((1, 0), (0, 2), (2, 0)), WISH)
        self.assert_tells(((0, 0, 1), (0, 0, 2)), leads, ((3, 2, 2), 1), ((3,), (0,), (0,)), ((1,), (1,), (1,)))

    def test_one_that_opens_two_shut_pieces_is_among_them(self):
        self.assertIn((2, 0, 4), leads(TWO_SHUT, TWO_STAND, TWO_WISH))

    def test_from_a_stand_to_itself(self):
        for house in SMALL:
            for stand in stands_of(house):
                self.assert_tells((), leads, house, stand, stand)

    def test_refused_as_fewest(self):
        self.assert_refuses(Unlike, "kind", 1, leads, HOUSE, STAND, ((2, 0), (0, 1), (1, 0)))
        self.assert_refuses(Unlike, "kind", 0, leads, ((1, 1), 2), ((1, 0), (0, 1)), ((0, 1), (0, 1)))
        self.assert_refuses(NoPlace, None, None, leads, ((1, 1), 2), ((1, 0), (0, 1)), ((0, 1), (1, 0)))

    def test_whichever_is_done_there_is_a_next_one(self):
        chance = random.Random(2)
        for _ in range(60):
            house = (tuple(chance.randrange(1, 4) for _ in range(chance.randrange(2, 9))), chance.randrange(1, 7))
            tasks = [(house, *grown(chance, house, sum(house[0]) - 1, 2)), shut_task(chance, 3)]
            for house, stand, wish in tasks:
                for left in range(fewest(house, stand, wish), 0, -1):
                    told = self.ask(leads, house, stand, wish)
                    self.assertEqual(tuple(sorted(set(told))), told)
                    stand = moved(house, stand, chance.choice(told))
                    self.assertEqual(left - 1, fewest(house, stand, wish))
                self.assertEqual(wish, stand)


class BeatByBeat(Asking):

    def test_all_stands_of_small_houses(self):
        for house in [one for one in SMALL if sum(one[0]) < 6]:
            for wish in stands_of(house):
                # As many deeds lead back as forth.
                beats = beats_from(house, wish)
                for stand in beats:
                    told = leads_by_beats(house, stand, beats)
                    self.assertEqual(told, leads(house, stand, wish), (house, stand, wish))
                    self.assertEqual(stand == wish, told == ())
                    behind = done(house, stand, told[0]) if told else stand
                    self.assertEqual(behind, first_towards(house, stand, wish))
                    for deed in deeds_at(house, stand):
                        cost = beats[done(house, stand, deed)] - beats[stand]
                        self.assertEqual(cost, costs(house, stand, wish, deed))

    def test_from_a_wider_house(self):
        beats = beats_from(TWO_SHUT, TWO_WISH)
        self.assertIn(TWO_STAND, beats)
        for stand in beats:
            self.assertEqual(leads_by_beats(TWO_SHUT, stand, beats), leads(TWO_SHUT, stand, TWO_WISH), stand)

    def test_between_in_small_houses(self):
        for house in [((2, 2), 2), ((1, 1, 1), 2), ((2, 1, 1), 2), ((1, 2), 3)]:
            for one in stands_of(house):
                beats = beats_from(house, one)
                far = {third: beats_from(house, third) for third in beats}
                for other, third in itertools.product(beats, repeat=2):
                    told = beats[third] + far[third][other] == beats[other]
                    self.assertIs(told, is_between(house, one, other, third), (house, one, other, third))


class Between(Asking):

    def test_the_one_and_the_other(self):
        chance = random.Random(3)
        for _ in range(100):
            house, one, other = great_task(chance)
            self.assert_tells(True, is_between, house, one, other, one)
            self.assert_tells(True, is_between, house, one, other, other)
            self.assert_tells(True, is_between, house, one, one, one)
            self.assert_tells(one == other, is_between, house, one, one, other)

    def test_a_third_on_the_way(self):
        self.assert_tells(True, is_between, HOUSE, STAND, WISH, ((1, 0), (0, 2), (2, 0)))
        self.assert_tells(True, is_between, HOUSE, STAND, WISH, ((1, 1), (0, 1), (2, 0)))
        self.assert_tells(True, is_between, HOUSE, STAND, WISH, ((2, 0), (0, 1), (1, 1)))

    def test_a_third_off_the_way(self):
        self.assert_tells(False, is_between, HOUSE, STAND, WISH, ((0, 0), (0, 2), (3, 0)))
        self.assert_tells(False, is_between, HOUSE, STAND, WISH, ((2, 0), (1, 1), (0, 1)))

    def test_refused_by_the_one_and_the_third_then_by_the_third_and_the_other(self):
        house = ((3, 3), 2)
        one, fewer, none = ((1, 1), (1, 0)), ((1, 0), (1, 0)), ((0, 1), (0, 0))
        self.assert_refuses(Unlike, "kind", 1, is_between, house, one, one, fewer)
        self.assert_refuses(Unlike, "kind", 0, is_between, house, one, one, none)
        self.assert_refuses(Unlike, "kind", 1, is_between, house, one, none, fewer)
        self.assert_refuses(Unlike, "kind", 0, is_between, house, one, none, one)
        self.assert_refuses(Unlike, "kind", 1, is_between, house, one, fewer, one)
        self.assert_refuses(Unlike, "kind", 0, is_between, house, fewer, none, fewer)

    def test_no_place_where_not_all_three_are_the_same(self):
        house = ((1, 1), 2)
        one, other = ((1, 0), (0, 1)), ((0, 1), (1, 0))
        self.assert_tells(True, is_between, house, one, one, one)
        for row in [(one, one, other), (one, other, one), (one, other, other)]:
            self.assert_refuses(NoPlace, None, None, is_between, house, *row)

    def test_unlike_ahead_of_no_place(self):
        house = ((1, 1), 2)
        one, other, unlike = ((1, 0), (0, 1)), ((0, 1), (1, 0)), ((1, 0), (1, 0))
        self.assert_refuses(Unlike, "kind", 0, is_between, house, one, unlike, other)
        self.assert_refuses(Unlike, "kind", 0, is_between, house, one, other, unlike)

    def test_all_that_leads_on_is_between(self):
        chance = random.Random(4)
        for _ in range(40):
            house, one, other = great_task(chance)
            for deed in deeds_at(house, one):
                third = moved(house, one, deed)
                self.assertEqual(deed in leads(house, one, other), is_between(house, one, other, third))


class FirstTowards(Asking):

    def test_the_stand_behind_the_first_that_leads_on(self):
        self.assert_tells(((1, 0), (0, 2), (2, 0)), first_towards, HOUSE, STAND, WISH)
        self.assert_tells(((1, 1), (0, 1), (2, 0)), first_towards, HOUSE, ((1, 0), (0, 2), (2, 0)), WISH)

    def test_of_like_ones_the_one(self):
        self.assert_tells(STAND, first_towards, HOUSE, STAND, STAND)
        full = ((1, 0), (0, 1))
        self.assert_tells(full, first_towards, ((1, 1), 2), full, full)

    def test_refused_as_fewest(self):
        self.assert_refuses(Unlike, "kind", 1, first_towards, HOUSE, STAND, ((2, 0), (0, 1), (1, 0)))
        self.assert_refuses(Unlike, "kind", 0, first_towards, ((1, 1), 2), ((1, 0), (0, 1)), ((0, 1), (0, 1)))
        self.assert_refuses(NoPlace, None, None, first_towards, ((1, 1), 2), ((1, 0), (0, 1)), ((0, 1), (1, 0)))

    def test_going_on_by_it(self):
        chance = random.Random(5)
        for _ in range(60):
            for house, one, other in (great_task(chance, 4), shut_task(chance, 4)):
                for _ in range(fewest(house, one, other)):
                    self.assertNotEqual(one, other)
                    one = first_towards(house, one, other)
                self.assertEqual(other, one)

    def test_great_numbers(self):
        chance = random.Random(6)
        for _ in range(60):
            for house, one, other in (great_task(chance), shut_task(chance)):
                behind = self.ask(first_towards, house, one, other)
                self.assertEqual(max(0, fewest(house, one, other) - 1), fewest(house, behind, other))


if __name__ == "__main__":
    unittest.main()
