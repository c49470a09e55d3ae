"""Matchings, their parts, and ends that are exchanged [13], [14], [15]."""

import collections
import itertools
import random
import unittest

from asking import Asking, grown, like_pairs, odd_things, spoilt, stands_of
from fullrooms.arcs import exchanged, is_closed, matching, matching_holds, parts
from fullrooms.errors import NoArc, Unlike

GREAT = 10 ** 12
# Of kind 0 rooms 0 and 1 have too many, rooms 2 and 3 lack; of kind 1 it is rooms 2 and 3 that give.
STAND = ((3, 0), (2, 1), (0, 2), (1, 2))
WISH = ((1, 1), (0, 3), (3, 0), (2, 1))
ARCS = ((0, 0, 2, 2), (0, 1, 2, 1), (0, 1, 3, 1), (1, 2, 0, 1), (1, 2, 1, 1), (1, 3, 1, 1))


def matching_one_by_one(stand, wish):
    """The matching of [13], by writing out each thing that gives and each that takes, one by one."""
    counts = collections.Counter()
    for kind in range(len(stand[0])):
        odds = [row[kind] - wished[kind] for row, wished in zip(stand, wish)]
        gives = [room for room, odd in enumerate(odds) for _ in range(odd)]
        takes = [room for room, odd in enumerate(odds) for _ in range(-odd)]
        counts.update((kind, here, there) for here, there in zip(gives, takes))
    return tuple(sorted((*told, many) for told, many in counts.items()))


def is_matching(stand, wish, arcs):
    """Whether arcs of the right form are a matching, by the words of [13]."""
    goes = collections.Counter()
    comes = collections.Counter()
    for kind, here, there, many in arcs:
        if stand[here][kind] <= wish[here][kind] or stand[there][kind] >= wish[there][kind]:
            return False
        goes[here, kind] += many
        comes[there, kind] += many
    if list(arcs) != sorted(arcs) or len({arc[:3] for arc in arcs}) != len(arcs):
        return False
    for room, kind in itertools.product(range(len(stand)), range(len(stand[0]))):
        odd = stand[room][kind] - wish[room][kind]
        if goes[room, kind] != max(0, odd) or comes[room, kind] != max(0, -odd):
            return False
    return True


def all_exchanges(arcs):
    """All pairs of two unlike arcs of one kind, told as (kind, here, there)."""
    return [
        (one[:3], other[:3]) for one, other in itertools.permutations(arcs, 2) if one[0] == other[0]
    ]


class Matching(Asking):

    def test_kind_by_kind(self):
        self.assert_tells(ARCS, matching, STAND, WISH)
        self.assert_tells(((0, 0, 1, 1),), matching, ((1,), (0,)), ((0,), (1,)))
        self.assert_tells(((0, 1, 0, 1),), matching, ((0,), (1,)), ((1,), (0,)))
        self.assert_tells(((1, 1, 0, 2),), matching, ((5, 0), (0, 2)), ((5, 2), (0, 0)))

    def test_the_first_gives_to_the_first_as_many_as_the_lesser(self):
        self.assert_tells(
            ((0, 1, 0, 2), (0, 1, 2, 3), (0, 3, 2, 1), (0, 3, 4, 4)),
            matching, ((0,), (5,), (0,), (5,), (0,)), ((2,), (0,), (4,), (0,), (4,))
        )
        self.assert_tells(
            ((0, 0, 3, 4), (0, 1, 3, 1), (0, 1, 4, 1), (0, 2, 4, 1)),
            matching, ((4,), (2,), (1,), (0,), (0,)), ((0,), (0,), (0,), (5,), (2,))
        )
        # Both come to an end at once.
        self.assert_tells(
            ((0, 0, 1, 2), (0, 2, 3, 2)), matching, ((2,), (0,), (2,), (0,)), ((0,), (2,), (0,), (2,))
        )

    def test_what_stays_has_no_arcs(self):
        self.assert_tells(((0, 0, 2, 1),), matching, ((5, 1), (7, 7), (0, 1)), ((4, 1), (7, 7), (1, 1)))

    def test_the_same_stand(self):
        for stand in stands_of(((2, 1), 2)):
            self.assert_tells((), matching, stand, stand)
            self.assert_tells(True, matching_holds, stand, stand, ())

    def test_great_numbers(self):
        stand = ((GREAT, 0), (0, GREAT), (0, 0))
        wish = ((0, 1), (1, 0), (GREAT - 1, GREAT - 1))
        arcs = ((0, 0, 1, 1), (0, 0, 2, GREAT - 1), (1, 1, 0, 1), (1, 1, 2, GREAT - 1))
        self.assert_tells(arcs, matching, stand, wish)
        self.assert_tells(True, matching_holds, stand, wish, arcs)
        gives, takes = ((GREAT,) * 6,) * 4, ((0,) * 6,) * 4
        told = tuple((kind, room, room + 4, GREAT) for kind in range(6) for room in range(4))
        self.assert_tells(told, matching, gives + takes, takes + gives)

    def test_unlike_with_the_first_kind(self):
        stand = ((1, 2, 3), (1, 0, 0))
        self.assert_refuses(Unlike, "kind", 0, matching, stand, ((1, 2, 3), (0, 0, 0)))
        self.assert_refuses(Unlike, "kind", 0, matching, stand, ((1, 2, 3), (2, 1, 0)))
        self.assert_refuses(Unlike, "kind", 1, matching, stand, ((0, 1, 0), (2, 0, 4)))
        self.assert_refuses(Unlike, "kind", 2, matching, stand, ((2, 0, 0), (0, 2, 2)))

    def test_of_all_stands(self):
        for house in [((2, 2), 2), ((2, 1, 1), 2), ((1, 1, 1), 3), ((2, 1, 2, 1), 1)]:
            for stand, wish in like_pairs(house):
                arcs = self.ask(matching, stand, wish)
                self.assertEqual(matching_one_by_one(stand, wish), arcs)
                self.assertTrue(is_matching(stand, wish, arcs))
                self.assert_tells(True, matching_holds, stand, wish, arcs)

    def test_of_wide_houses(self):
        chance = random.Random(13)
        for _ in range(200):
            house = (tuple(chance.randrange(1, 12) for _ in range(8)), chance.randrange(1, 7))
            stand, wish = grown(chance, house, 60, 2)
            arcs = self.ask(matching, stand, wish)
            self.assertEqual(matching_one_by_one(stand, wish), arcs)
            self.assert_tells(True, matching_holds, stand, wish, arcs)


class MatchingHolds(Asking):

    def assert_none(self, thing, stand=STAND, wish=WISH):
        self.assert_tells(False, matching_holds, stand, wish, thing)

    def test_behind_exchanged_ends(self):
        chance = random.Random(14)
        for _ in range(60):
            house = (tuple(chance.randrange(1, 6) for _ in range(chance.randrange(2, 9))), chance.randrange(1, 4))
            stand, wish = grown(chance, house, 25, 2)
            arcs = matching(stand, wish)
            for _ in range(12):
                told = all_exchanges(arcs)
                if told:
                    arcs = exchanged(arcs, *chance.choice(told))
                self.assertTrue(is_matching(stand, wish, arcs))
                self.assert_tells(True, matching_holds, stand, wish, arcs)

    def test_others_than_the_told_one(self):
        stand, wish = ((1,), (1,), (0,), (0,)), ((0,), (0,), (1,), (1,))
        self.assert_tells(True, matching_holds, stand, wish, ((0, 0, 2, 1), (0, 1, 3, 1)))
        self.assert_tells(True, matching_holds, stand, wish, ((0, 0, 3, 1), (0, 1, 2, 1)))

    def test_arcs_split_in_two(self):
        self.assert_none(((0, 0, 2, 1), (0, 0, 2, 1), *ARCS[1:]))
        stand, wish = ((3,), (0,)), ((0,), (3,))
        self.assert_tells(True, matching_holds, stand, wish, ((0, 0, 1, 3),))
        self.assert_none(((0, 0, 1, 1), (0, 0, 1, 2)), stand, wish)
        self.assert_none(((0, 0, 1, 2), (0, 0, 1, 1)), stand, wish)

    def test_arcs_twice_or_gone(self):
        for at, arc in enumerate(ARCS):
            self.assert_none(ARCS[:at] + (arc,) + ARCS[at:])
            self.assert_none(ARCS[:at] + ARCS[at + 1:])
        self.assert_none(ARCS + ARCS)
        self.assert_none(())

    def test_arcs_turned_about(self):
        for at, (kind, here, there, many) in enumerate(ARCS):
            self.assert_none(tuple(sorted(ARCS[:at] + ((kind, there, here, many),) + ARCS[at + 1:])))
        self.assert_none(tuple(sorted((kind, there, here, many) for kind, here, there, many in ARCS)))
        self.assert_none(((0, 1, 0, 1),), ((1,), (0,)), ((0,), (1,)))

    def test_arcs_of_no_things_or_fewer(self):
        for many in (0, -1):
            self.assert_none(tuple(sorted(ARCS + ((0, 0, 3, many),))))
            self.assert_none(ARCS[:2] + ((0, 1, 3, many),) + ARCS[3:])
        # Less than nothing on two of the arcs, so that all sums come out as they should.
        stand, wish = ((1,), (1,), (0,), (0,)), ((0,), (0,), (1,), (1,))
        self.assert_none(((0, 0, 2, 2), (0, 0, 3, -1), (0, 1, 2, -1), (0, 1, 3, 2)), stand, wish)
        self.assert_none(((0, 0, 2, 1), (0, 0, 3, 0), (0, 1, 2, 0), (0, 1, 3, 1)), stand, wish)
        self.assert_none(((0, 0, 1, 0),), ((1,), (0,)), ((1,), (0,)))

    def test_one_more_or_fewer(self):
        for at, (kind, here, there, many) in enumerate(ARCS):
            for more in (-1, 1, GREAT, 10 ** 59):
                self.assert_none(ARCS[:at] + ((kind, here, there, many + more),) + ARCS[at + 1:])

    def test_in_another_order(self):
        for order in itertools.permutations(ARCS):
            self.assert_tells(order == ARCS, matching_holds, STAND, WISH, order)

    def test_by_way_of_a_third_room(self):
        stand, wish = ((1,), (0,), (0,)), ((0,), (0,), (1,))
        self.assert_tells(True, matching_holds, stand, wish, ((0, 0, 2, 1),))
        self.assert_none(((0, 0, 1, 1), (0, 1, 2, 1)), stand, wish)
        self.assert_none(((0, 0, 2, 1), (0, 1, 1, 1)), stand, wish)
        self.assert_none(((0, 0, 0, 1), (0, 0, 2, 1)), stand, wish)
        # By way of a room that gives, too, and of one that takes, too.
        stand, wish = ((1,), (1,), (0,)), ((0,), (0,), (2,))
        self.assert_none(((0, 0, 1, 1), (0, 1, 2, 2)), stand, wish)
        stand, wish = ((2,), (0,), (0,)), ((0,), (1,), (1,))
        self.assert_none(((0, 0, 1, 2), (0, 1, 2, 1)), stand, wish)

    def test_another_kind(self):
        stand, wish = ((1, 1), (0, 0)), ((0, 1), (1, 0))
        self.assert_tells(True, matching_holds, stand, wish, ((0, 0, 1, 1),))
        self.assert_none(((1, 0, 1, 1),), stand, wish)
        self.assert_none(((0, 0, 1, 1), (1, 0, 1, 1)), stand, wish)

    def test_numbers_that_no_kind_and_no_room_has(self):
        stand, wish = ((1, 0), (0, 0)), ((0, 0), (1, 0))
        for arc in [
            (2, 0, 1, 1), (-1, 0, 1, 1), (-2, 0, 1, 1), (0, 2, 1, 1), (0, -2, 1, 1), (0, 0, 2, 1), (0, 0, -1, 1),
            (10 ** 59, 0, 1, 1), (0, 10 ** 59, 1, 1), (0, 0, 10 ** 59, 1), (0, 0, 1, 10 ** 59),
        ]:
            self.assert_none((arc,), stand, wish)

    def test_true_is_no_1(self):
        stand, wish = ((0, 0), (1, 1)), ((1, 1), (0, 0))
        arcs = ((0, 1, 0, 1), (1, 1, 0, 1))
        self.assert_tells(True, matching_holds, stand, wish, arcs)
        for at, place in itertools.product(range(2), range(4)):
            arc = arcs[at][:place] + (bool(arcs[at][place]),) + arcs[at][place + 1:]
            self.assertEqual(arcs, arcs[:at] + (arc,) + arcs[at + 1:])
            self.assert_none(arcs[:at] + (arc,) + arcs[at + 1:], stand, wish)

    def test_lists_in_the_place_of_tuples(self):
        self.assert_none(list(ARCS))
        self.assert_none(tuple(map(list, ARCS)))
        self.assert_none([list(arc) for arc in ARCS])
        self.assert_none([], STAND, STAND)
        self.assert_none(dict(enumerate(ARCS)))
        self.assert_none({arc: True for arc in ARCS})

    def test_something_put_otherwise(self):
        for thing in spoilt(ARCS):
            self.assert_none(thing)

    def test_anything_else(self):
        for thing in [0, 1, 10 ** 59, *odd_things()]:
            self.assert_none(thing)
            self.assert_none((*ARCS, thing))
            self.assert_none((thing, *ARCS))
            self.assert_none(ARCS[:2] + ((0, 1, 3, thing),) + ARCS[3:] if thing != 1 or thing is True else None)
            self.assert_tells(repr(thing) == "()", matching_holds, STAND, STAND, thing)

    def test_a_thousand_arcs(self):
        self.assert_none((ARCS[0],) * 1000)
        deep = 0
        for _ in range(20):
            deep = (deep,) * 1000
        self.assertIs(False, matching_holds(STAND, WISH, deep))
        self.assertIs(False, matching_holds(STAND, WISH, (*ARCS, (deep, deep, deep, deep))))

    def test_of_unlike_things_nothing_is(self):
        self.assert_none((), ((1,), (0,)), ((0,), (0,)))
        self.assert_none((), ((0,), (0,)), ((1,), (0,)))
        self.assert_none(((0, 0, 1, 1),), ((2,), (0,)), ((0,), (1,)))
        self.assert_none(((0, 0, 1, 1),), ((1,), (0,)), ((0,), (2,)))
        self.assert_none(((0, 0, 1, 2),), ((2,), (0,)), ((0,), (1,)))
        self.assert_none(((0, 0, 1, 1),), ((1, 1), (0, 0)), ((0, 0), (1, 0)))
        alike = like_pairs(((1, 1), 2))
        arcs = [(kind, here, 1 - here, 1) for kind in range(2) for here in range(2)]
        told = [row for many in range(4) for row in itertools.combinations(arcs, many)]
        for stand, wish in itertools.product(stands_of(((1, 1), 2)), repeat=2):
            if (stand, wish) not in alike:
                for thing in told:
                    self.assert_none(thing, stand, wish)

    def test_all_arcs_of_small_stands(self):
        for house, most in [(((2, 2), 2), 2), (((1, 1, 1), 2), 1), (((1, 1, 1, 1), 1), 1), (((2, 1, 2), 1), 2)]:
            rooms = range(len(house[0]))
            arcs = list(itertools.product(range(house[1]), rooms, rooms, range(1, most + 1)))
            told = [row for many in range(4) for row in itertools.combinations(arcs, many)]
            for stand, wish in like_pairs(house)[::7]:
                for thing in told:
                    fits = is_matching(stand, wish, thing)
                    self.assertIs(fits, matching_holds(stand, wish, thing), (stand, wish, thing))


class Parts(Asking):

    def test_no_arcs(self):
        self.assert_tells((), parts, ())

    def test_one_part(self):
        self.assert_tells(((0, 1),), parts, ((0, 0, 1, 5),))
        self.assert_tells(((2, 7),), parts, ((5, 7, 2, 1),))
        self.assert_tells(((0, 1, 2, 3),), parts, ARCS)
        self.assert_tells(((0, 1, 2),), parts, ((0, 2, 0, 1), (1, 1, 2, 1)))

    def test_several_by_their_first_rooms(self):
        self.assert_tells(((0, 5), (1, 4), (2, 3)), parts, ((0, 2, 3, 1), (0, 4, 1, 1), (1, 5, 0, 1)))
        self.assert_tells(((0, 3), (1, 2)), parts, ((0, 1, 2, 9), (0, 3, 0, 9)))
        self.assert_tells(((0, 6, 7), (1, 4, 5)), parts, ((0, 1, 5, 1), (1, 4, 5, 2), (2, 6, 0, 3), (3, 7, 6, 1)))

    def test_rooms_without_arcs_are_in_none(self):
        self.assert_tells(((1, 3), (4, 6)), parts, ((0, 1, 3, 1), (1, 6, 4, 1)))

    def test_hanging_together_by_way_of_others_alone(self):
        chain = ((0, 0, 7, 1), (1, 7, 1, 1), (2, 1, 6, 1), (3, 6, 2, 1), (4, 2, 5, 1), (5, 5, 4, 1))
        self.assert_tells(((0, 1, 2, 4, 5, 6, 7),), parts, chain)
        self.assert_tells(((0, 1, 7), (2, 4, 5, 6)), parts, chain[:2] + chain[3:])

    def test_rooms_of_one_kind_are_not_one_part_by_that(self):
        self.assert_tells(((0, 1), (2, 3)), parts, ((0, 0, 1, 1), (0, 2, 3, 1)))

    def test_of_many_matchings(self):
        chance = random.Random(15)
        for _ in range(200):
            house = (tuple(chance.randrange(1, 4) for _ in range(8)), chance.randrange(1, 7))
            arcs = matching(*grown(chance, house, 7, 2))
            heaps = [{room} for room in range(8)]
            for kind, here, there, many in arcs:
                joined = [heap for heap in heaps if here in heap or there in heap]
                heaps = [heap for heap in heaps if heap not in joined] + [set().union(*joined)]
            told = tuple(sorted(tuple(sorted(heap)) for heap in heaps if len(heap) > 1))
            self.assert_tells(told, parts, arcs)


class IsClosed(Asking):

    def test_of_any_rooms(self):
        house = ((1, 2, 1), 2)
        for stand in stands_of(house):
            for many in range(4):
                for rooms in itertools.permutations(range(3), many):
                    full = all(sum(stand[room]) == house[0][room] for room in rooms)
                    self.assert_tells(full, is_closed, house, stand, rooms)

    def test_no_rooms(self):
        self.assert_tells(True, is_closed, ((1, 1), 1), ((0,), (0,)), ())

    def test_one_place_among_great_numbers(self):
        house = ((GREAT, GREAT), 2)
        self.assert_tells(True, is_closed, house, ((GREAT, 0), (1, GREAT - 1)), (0, 1))
        self.assert_tells(False, is_closed, house, ((GREAT, 0), (1, GREAT - 2)), (0, 1))
        self.assert_tells(True, is_closed, house, ((GREAT, 0), (1, GREAT - 2)), (0,))


class Exchanged(Asking):

    def test_one_less_of_both_and_one_more_of_the_others(self):
        arcs = ((0, 0, 2, 3), (0, 0, 3, 1), (0, 1, 2, 4), (0, 1, 3, 5))
        self.assert_tells(
            ((0, 0, 2, 2), (0, 0, 3, 2), (0, 1, 2, 5), (0, 1, 3, 4)), exchanged, arcs, (0, 0, 2), (0, 1, 3)
        )
        self.assert_tells(
            ((0, 0, 2, 4), (0, 1, 2, 3), (0, 1, 3, 6)), exchanged, arcs, (0, 0, 3), (0, 1, 2)
        )

    def test_arcs_of_which_none_is_left_go(self):
        arcs = ((0, 0, 2, 1), (0, 1, 3, 1))
        self.assert_tells(((0, 0, 3, 1), (0, 1, 2, 1)), exchanged, arcs, (0, 0, 2), (0, 1, 3))
        self.assert_tells(((0, 0, 3, 1), (0, 1, 2, 1)), exchanged, arcs, (0, 1, 3), (0, 0, 2))
        arcs = ((0, 0, 2, 2), (0, 1, 3, 1))
        self.assert_tells(((0, 0, 2, 1), (0, 0, 3, 1), (0, 1, 2, 1)), exchanged, arcs, (0, 0, 2), (0, 1, 3))

    def test_new_arcs_stand_rising(self):
        arcs = ((0, 0, 1, 1), (1, 2, 0, 1), (1, 3, 1, 7), (2, 0, 3, 1))
        self.assert_tells(
            ((0, 0, 1, 1), (1, 2, 1, 1), (1, 3, 0, 1), (1, 3, 1, 6), (2, 0, 3, 1)),
            exchanged, arcs, (1, 3, 1), (1, 2, 0)
        )

    def test_great_numbers(self):
        arcs = ((5, 0, 7, GREAT), (5, 1, 6, GREAT))
        self.assert_tells(
            ((5, 0, 6, 1), (5, 0, 7, GREAT - 1), (5, 1, 6, GREAT - 1), (5, 1, 7, 1)),
            exchanged, arcs, (5, 0, 7), (5, 1, 6)
        )

    def test_like_here_or_like_there(self):
        arcs = ((0, 0, 2, 1), (0, 0, 3, 2), (0, 1, 2, 1))
        self.assert_tells(arcs, exchanged, arcs, (0, 0, 2), (0, 0, 3))
        self.assert_tells(arcs, exchanged, arcs, (0, 0, 3), (0, 0, 2))
        self.assert_tells(arcs, exchanged, arcs, (0, 0, 2), (0, 1, 2))
        self.assert_tells(arcs, exchanged, arcs, (0, 1, 2), (0, 0, 2))

    def test_in_either_order_and_back_again(self):
        for one, other in all_exchanges(ARCS):
            behind = self.ask(exchanged, ARCS, one, other)
            self.assert_tells(behind, exchanged, ARCS, other, one)
            self.assertTrue(is_matching(STAND, WISH, behind))
            kind, here, there = one
            if here != other[1] and there != other[2]:
                self.assertNotEqual(ARCS, behind)
                self.assert_tells(ARCS, exchanged, behind, (kind, here, other[2]), (kind, other[1], there))

    def test_thing_by_thing(self):
        chance = random.Random(16)
        for _ in range(60):
            house = (tuple(chance.randrange(1, 6) for _ in range(chance.randrange(2, 9))), chance.randrange(1, 5))
            arcs = matching(*grown(chance, house, 25, 2))
            for one, other in all_exchanges(arcs):
                single = [arc[:3] for arc in arcs for _ in range(arc[3])]
                single.remove(one)
                single.remove(other)
                single += [(one[0], one[1], other[2]), (one[0], other[1], one[2])]
                told = tuple(sorted((*arc, many) for arc, many in collections.Counter(single).items()))
                self.assert_tells(told, exchanged, arcs, one, other)


class NoSuchArc(Asking):

    def assert_no_arc(self, worth, arcs, one, other):
        self.assert_refuses(NoArc, "arc", worth, exchanged, arcs, one, other)

    def none_of(self, arcs):
        """Things that are none of the arcs, told as (kind, here, there)."""
        told = [0, 1, 10 ** 59, *odd_things(), *arcs, [], *map(list, arcs), arcs, arcs[:1]]
        for kind, here, there, many in arcs:
            told += [
                (kind, there, here), (kind, here), (kind, here, there, 0), [kind, here, there], (kind, (here, there)),
                ((kind, here, there),), (kind + 7, here, there), (kind, here, there + 9), (kind, here, here),
                (-1, here, there), (kind, -1, there), (kind, here, -1), (kind, here, None), (kind, here, [there]),
                (kind, here, {}), (str(kind), here, there), {0: kind, 1: here, 2: there}, (kind, here, 10 ** 59),
            ]
        return told

    def test_none_of_the_arcs(self):
        for thing in self.none_of(ARCS):
            self.assert_no_arc(thing, ARCS, thing, (0, 0, 2))
            self.assert_no_arc(thing, ARCS, (0, 0, 2), thing)

    def test_the_first_ahead_of_the_second(self):
        things = self.none_of(ARCS)
        for one, other in zip(things, things[1:]):
            self.assert_no_arc(one, ARCS, one, other)
        for thing in things:
            self.assert_no_arc(thing, ARCS, thing, thing)
            self.assert_no_arc(thing, ARCS, thing, (1, 2, 0))

    def test_with_its_number_behind_or_turned_about(self):
        arc = (0, 1, 2, 1)
        self.assert_no_arc(arc, ARCS, arc, (0, 0, 2))
        self.assert_no_arc(arc, ARCS, (0, 0, 2), arc)
        turned = (0, 2, 1)
        self.assert_no_arc(turned, ARCS, turned, (0, 0, 2))
        self.assert_no_arc(turned, ARCS, (0, 0, 2), turned)

    def test_true_is_no_1(self):
        arcs = ((1, 0, 1, 1), (1, 2, 1, 1), (1, 2, 3, 1))
        for thing in [(True, 0, 1), (1, False, 1), (1, 0, True), (True, False, True)]:
            self.assertEqual((1, 0, 1), thing)
            self.assert_no_arc(thing, arcs, thing, (1, 2, 3))
            self.assert_no_arc(thing, arcs, (1, 2, 3), thing)
            self.assert_no_arc(thing, arcs, (1, 0, 1), thing)

    def test_of_the_second_another_kind(self):
        other = (1, 2, 0)
        self.assert_no_arc(other, ARCS, (0, 0, 2), other)
        first = (0, 0, 2)
        self.assert_no_arc(first, ARCS, (1, 2, 0), first)

    def test_of_the_second_the_first_again(self):
        for arc in ARCS:
            again = tuple(list(arc[:3]))
            self.assert_no_arc(again, ARCS, arc[:3], again)
        arcs = ((0, 0, 1, GREAT),)
        again = (0, 0, 1)
        self.assert_no_arc(again, arcs, (0, 0, 1), again)

    def test_of_no_arcs(self):
        one = (0, 0, 1)
        self.assert_no_arc(one, (), one, (0, 1, 0))

    def test_an_arc_that_went(self):
        behind = exchanged(((0, 0, 2, 1), (0, 1, 3, 1)), (0, 0, 2), (0, 1, 3))
        gone = (0, 0, 2)
        self.assert_no_arc(gone, behind, gone, (0, 1, 2))
        self.assert_no_arc(gone, behind, (0, 1, 2), gone)


if __name__ == "__main__":
    unittest.main()
