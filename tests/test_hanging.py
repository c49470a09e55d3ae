"""The matching that hangs together as far as it can [16]."""

import collections
import itertools
import random
import unittest

from asking import Asking, grown, like_pairs, stands_of
from fullrooms.arcs import exchanged, is_closed, matching, matching_holds, parts
from fullrooms.errors import Unlike
from fullrooms.hanging import hung
from fullrooms.pieces import shut_pieces

GREAT = 10 ** 12


def made(rooms, kinds, arcs):
    """A stand and a wish in which just what the arcs tell is amiss."""
    stand = [[0] * kinds for _ in range(rooms)]
    wish = [[0] * kinds for _ in range(rooms)]
    for kind, here, there, many in arcs:
        stand[here][kind] += many
        wish[there][kind] += many
    return tuple(map(tuple, stand)), tuple(map(tuple, wish))


def fitting(stand, wish, more):
    """The house whose rooms are as small as can be, with so many more places in some of them."""
    sizes = [max(1, sum(row), sum(wished)) for row, wished in zip(stand, wish)]
    return (tuple(size + more.get(room, 0) for room, size in enumerate(sizes)), len(stand[0]))


def heaps_of(single):
    """Sets of rooms that hang together by single arcs, by their first rooms."""
    heaps = []
    for kind, here, there in single:
        joined = [heap for heap in heaps if here in heap or there in heap]
        heaps = [heap for heap in heaps if heap not in joined] + [{here, there}.union(*joined)]
    return sorted(heaps, key=min)


def hung_thing_by_thing(house, stand, wish):
    """The matching of [16] by its words, over single things, and how many exchanges led to it."""
    single = sorted(arc[:3] for arc in matching(stand, wish) for _ in range(arc[3]))
    for step in itertools.count():
        pair = None
        for heap in heaps_of(single):
            if pair is None and all(sum(stand[room]) == house[0][room] for room in heap):
                own = [arc for arc in single if arc[1] in heap]
                others = [arc for arc in single if arc[1] not in heap]
                shared = {arc[0] for arc in own} & {arc[0] for arc in others}
                if shared:
                    one = next(arc for arc in own if arc[0] in shared)
                    pair = one, next(arc for arc in others if arc[0] == one[0])
        if pair is None:
            return tuple(sorted((*arc, many) for arc, many in collections.Counter(single).items())), step
        (kind, here, there), (kind, other_here, other_there) = pair
        single.remove(pair[0])
        single.remove(pair[1])
        single = sorted(single + [(kind, here, other_there), (kind, other_here, there)])


class Hung(Asking):

    def look_over(self, house, stand, wish):
        """Hold it against the words, and its closed parts against the shut pieces; tell how many steps there were."""
        told, steps = hung_thing_by_thing(house, stand, wish)
        self.assert_tells(told, hung, house, stand, wish)
        self.assert_tells(True, matching_holds, stand, wish, told)
        closed = tuple(rooms for rooms in parts(told) if is_closed(house, stand, rooms))
        self.assertEqual(tuple(rooms for rooms, kinds in shut_pieces(house, stand, wish)), closed)
        self.assertEqual(len(parts(matching(stand, wish))) - steps, len(parts(told)))
        return steps

    def test_the_same_stand(self):
        for house in [((1, 1), 2), ((2, 1), 2)]:
            for stand in stands_of(house):
                self.assert_tells((), hung, house, stand, stand)

    def test_where_nothing_is_shared_it_is_the_matching(self):
        arcs = ((0, 0, 1, 1), (1, 1, 0, 1), (2, 2, 3, 1), (3, 3, 2, 1))
        stand, wish = made(5, 4, arcs)
        for more in [{4: 1}, {0: 1}, {3: 1}, {}]:
            self.assert_tells(arcs, hung, fitting(stand, wish, more), stand, wish)

    def test_a_closed_part_that_shares_a_kind_with_one_that_has_a_place(self):
        stand, wish = made(4, 2, ((0, 0, 1, 1), (0, 2, 3, 1), (1, 1, 0, 1)))
        house = fitting(stand, wish, {})
        self.assert_tells(((0, 0, 1, 1), (0, 2, 3, 1), (1, 1, 0, 1)), matching, stand, wish)
        self.assert_tells(((0, 0, 3, 1), (0, 2, 1, 1), (1, 1, 0, 1)), hung, house, stand, wish)
        self.assertEqual(1, self.look_over(house, stand, wish))

    def test_a_part_with_a_place_ahead_of_the_closed_one(self):
        arcs = ((0, 0, 1, 1), (0, 2, 3, 1), (1, 3, 2, 1))
        stand, wish = made(4, 2, arcs)
        self.assert_tells(((0, 0, 3, 1), (0, 2, 1, 1), (1, 3, 2, 1)), hung, fitting(stand, wish, {}), stand, wish)

    def test_parts_with_places_that_share_a_kind_stay_two(self):
        arcs = ((0, 0, 1, 1), (0, 2, 3, 1))
        stand, wish = made(4, 1, arcs)
        self.assert_tells(arcs, hung, fitting(stand, wish, {}), stand, wish)
        arcs = ((0, 0, 1, 1), (0, 2, 3, 1), (1, 1, 0, 1), (2, 3, 2, 1))
        stand, wish = made(4, 3, arcs)
        self.assert_tells(arcs, hung, fitting(stand, wish, {0: 1, 3: 1}), stand, wish)

    def test_two_closed_parts_that_share_a_kind(self):
        arcs = ((0, 0, 1, 1), (0, 2, 3, 1), (1, 1, 0, 1), (2, 3, 2, 1))
        behind = ((0, 0, 3, 1), (0, 2, 1, 1), (1, 1, 0, 1), (2, 3, 2, 1))
        stand, wish = made(5, 3, arcs)
        for more in [{}, {4: 3}, {0: 1}, {1: 2}, {2: 1}, {3: 1}]:
            house = fitting(stand, wish, more)
            self.assert_tells(arcs, matching, stand, wish)
            self.assert_tells(behind, hung, house, stand, wish)
            self.assertEqual(1, self.look_over(house, stand, wish))

    def test_one_thing_alone_of_each_arc_is_exchanged(self):
        arcs = ((0, 0, 1, 3), (0, 2, 3, 2), (1, 1, 0, 3), (2, 3, 2, 2))
        stand, wish = made(5, 3, arcs)
        behind = ((0, 0, 1, 2), (0, 0, 3, 1), (0, 2, 1, 1), (0, 2, 3, 1), (1, 1, 0, 3), (2, 3, 2, 2))
        self.assert_tells(behind, hung, fitting(stand, wish, {}), stand, wish)

    def test_great_numbers(self):
        arcs = ((0, 0, 1, GREAT), (0, 2, 3, GREAT), (1, 1, 0, GREAT), (2, 3, 2, GREAT))
        stand, wish = made(5, 3, arcs)
        self.assert_tells(
            (
                (0, 0, 1, GREAT - 1), (0, 0, 3, 1), (0, 2, 1, 1), (0, 2, 3, GREAT - 1), (1, 1, 0, GREAT),
                (2, 3, 2, GREAT),
            ),
            hung, fitting(stand, wish, {}), stand, wish
        )

    def test_the_first_arc_of_such_a_kind(self):
        # Of the first part's kinds 0 and 1 the others have 1 alone; of these it is the first that has it.
        arcs = ((0, 0, 1, 1), (1, 1, 0, 1), (1, 3, 2, 1), (1, 5, 4, 1), (2, 2, 3, 1), (3, 4, 5, 1))
        stand, wish = made(7, 4, arcs)
        house = fitting(stand, wish, {})
        self.assert_tells(arcs, matching, stand, wish)
        first = exchanged(arcs, (1, 1, 0), (1, 3, 2))
        self.assertEqual(((0, 1, 2, 3), (4, 5)), parts(first))
        self.assert_tells(exchanged(first, (1, 1, 2), (1, 5, 4)), hung, house, stand, wish)
        self.assertEqual(2, self.look_over(house, stand, wish))

    def test_the_first_part_that_is_closed_and_shares(self):
        # The part of rooms 0 and 1 has a place, that of 2 and 3 shares nothing: 4 and 5 are the first such one.
        arcs = ((0, 0, 1, 1), (0, 4, 5, 1), (1, 2, 3, 1), (2, 3, 2, 1), (3, 5, 4, 1))
        stand, wish = made(6, 4, arcs)
        house = fitting(stand, wish, {})
        self.assert_tells(arcs, matching, stand, wish)
        self.assert_tells(exchanged(arcs, (0, 4, 5), (0, 0, 1)), hung, house, stand, wish)
        self.assertEqual(1, self.look_over(house, stand, wish))

    def test_step_by_step(self):
        # Four closed parts, of rooms 0 1, 2 3, 4 5 and 6 7: kind 0 is in the first two, 1 in the next, 2 in the last.
        arcs = (
            (0, 0, 1, 1), (0, 2, 3, 1), (1, 3, 2, 1), (1, 5, 4, 1), (2, 4, 5, 1), (2, 6, 7, 1), (3, 1, 0, 1),
            (4, 7, 6, 1),
        )
        stand, wish = made(8, 5, arcs)
        house = fitting(stand, wish, {})
        self.assert_tells(arcs, matching, stand, wish)
        first = exchanged(arcs, (0, 0, 1), (0, 2, 3))
        self.assertEqual(((0, 1, 2, 3), (4, 5), (6, 7)), parts(first))
        second = exchanged(first, (1, 3, 2), (1, 5, 4))
        self.assertEqual(((0, 1, 2, 3, 4, 5), (6, 7)), parts(second))
        third = exchanged(second, (2, 4, 5), (2, 6, 7))
        self.assert_tells(third, hung, house, stand, wish)
        self.assertEqual(3, self.look_over(house, stand, wish))

    def test_a_house_without_a_place_is_not_refused(self):
        stand, wish = ((1, 0), (0, 1)), ((0, 1), (1, 0))
        self.assert_tells(((0, 0, 1, 1), (1, 1, 0, 1)), hung, ((1, 1), 2), stand, wish)

    def test_unlike_with_the_first_kind(self):
        house = ((9, 9), 3)
        stand = ((1, 2, 3), (1, 0, 0))
        self.assert_refuses(Unlike, "kind", 0, hung, house, stand, ((1, 2, 3), (0, 1, 0)))
        self.assert_refuses(Unlike, "kind", 1, hung, house, stand, ((2, 1, 0), (0, 0, 4)))
        self.assert_refuses(Unlike, "kind", 2, hung, house, stand, ((0, 1, 4), (2, 1, 0)))
        self.assert_refuses(Unlike, "kind", 0, hung, ((1, 1), 2), ((1, 0), (0, 1)), ((0, 1), (0, 1)))

    def test_of_all_stands_of_small_houses(self):
        for house in [((1, 1), 2), ((2, 1), 2), ((1, 1, 1), 3), ((2, 1, 1), 2), ((1, 1, 1, 1), 2)]:
            for stand, wish in like_pairs(house):
                self.look_over(house, stand, wish)

    def test_of_wide_houses(self):
        chance = random.Random(17)
        steps = collections.Counter()
        for _ in range(1500):
            sizes = tuple(chance.choice((1, 1, 1, 2, 2, 3)) for _ in range(chance.randrange(4, 9)))
            house = (sizes, chance.randrange(2, 7))
            stand, wish = grown(chance, house, sum(sizes) - chance.randrange(3), 2)
            steps[self.look_over(house, stand, wish)] += 1
        # Chance hands in such houses, too, in which something is to be exchanged.
        self.assertGreater(steps[1], 50)
        self.assertGreater(steps[2], 3)


if __name__ == "__main__":
    unittest.main()
