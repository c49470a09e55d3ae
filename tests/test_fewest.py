"""The fewest deeds [7], [10], and what [3] says of them."""

import itertools
import random
import unittest

from asking import GREAT, SMALL, Asking, beats_from, grown, like_pairs, stands_of
from fullrooms.errors import NoPlace, Unlike
from fullrooms.fewest import fewest

# Two shut pieces, rooms 0 and 2 and rooms 1 and 3, beside rooms 4 and 5, a piece with a place.
HOUSE = ((1, 1, 1, 1, 2, 2), 5)
STAND = ((1, 0, 0, 0, 0), (0, 1, 0, 0, 0), (0, 0, 1, 0, 0), (0, 0, 0, 1, 0), (0, 0, 0, 0, 2), (0, 0, 0, 0, 0))
WISH = ((0, 0, 1, 0, 0), (0, 0, 0, 1, 0), (1, 0, 0, 0, 0), (0, 1, 0, 0, 0), (0, 0, 0, 0, 0), (0, 0, 0, 0, 2))


class Fewest(Asking):

    def test_too_many_alone(self):
        self.assert_tells(1, fewest, ((1, 1), 1), ((1,), (0,)), ((0,), (1,)))
        self.assert_tells(3, fewest, ((4, 4), 2), ((2, 1), (0, 0)), ((0, 0), (2, 1)))
        self.assert_tells(2, fewest, ((2, 1), 2), ((1, 0), (0, 1)), ((0, 1), (1, 0)))

    def test_one_shut_piece(self):
        self.assert_tells(3, fewest, ((1, 1, 1), 2), ((1, 0), (0, 1), (0, 0)), ((0, 1), (1, 0), (0, 0)))
        self.assert_tells(3, fewest, ((2, 2, 3), 2), ((2, 0), (0, 2), (1, 0)), ((1, 1), (1, 1), (1, 0)))
        self.assert_tells(5, fewest, ((2, 2, 3), 2), ((2, 0), (0, 2), (1, 0)), ((0, 2), (2, 0), (1, 0)))

    def test_several_shut_pieces_beside_one_with_a_place(self):
        self.assert_tells(8, fewest, HOUSE, STAND, WISH)
        self.assert_tells(6, fewest, HOUSE, STAND, WISH[:4] + STAND[4:])
        self.assert_tells(2, fewest, HOUSE, STAND, STAND[:4] + WISH[4:])
        self.assert_tells(5, fewest, HOUSE, STAND, (WISH[0], STAND[1], WISH[2], STAND[3], *WISH[4:]))

    def test_a_place_in_a_piece_opens_it(self):
        for room in range(4):
            sizes = tuple(2 if at == room else size for at, size in enumerate(HOUSE[0]))
            self.assert_tells(7, fewest, (sizes, 5), STAND, WISH)
        self.assert_tells(6, fewest, ((1, 2, 2, 1, 2, 2), 5), STAND, WISH)
        self.assert_tells(7, fewest, ((1, 2, 1, 2, 2, 2), 5), STAND, WISH)

    def test_several_shut_pieces_and_several_with_a_place(self):
        house = ((1, 1, 1, 1, 3, 1, 3, 2), 6)
        stand = [[0] * 6 for _ in range(8)]
        wish = [[0] * 6 for _ in range(8)]
        for kind, here, there in [(0, 0, 1), (1, 1, 0), (2, 2, 3), (3, 3, 2), (4, 4, 5), (5, 6, 7)]:
            stand[here][kind] = 1
            wish[there][kind] = 1
        stand, wish = tuple(map(tuple, stand)), tuple(map(tuple, wish))
        self.assert_tells(6 + 2, fewest, house, stand, wish)
        self.assert_tells(6 + 2, fewest, house, wish, stand)

    def test_great_numbers(self):
        house = ((GREAT, GREAT, 1), 2)
        stand = ((GREAT, 0), (0, GREAT), (0, 0))
        wish = ((0, GREAT), (GREAT, 0), (0, 0))
        self.assert_tells(2 * GREAT + 1, fewest, house, stand, wish)
        house = ((GREAT, GREAT), 2)
        stand = ((GREAT, 0), (0, GREAT - 1))
        self.assert_tells(2 * GREAT - 2, fewest, house, stand, ((1, GREAT - 1), (GREAT - 1, 0)))
        wide = ((GREAT,) * 8, 6)
        rows = [tuple(GREAT if kind == room else 0 for kind in range(6)) for room in range(6)]
        empty = ((0,) * 6,) * 2
        self.assert_tells(6 * GREAT + 1, fewest, wide, (*rows, *empty), (*rows[1:], rows[0], *empty))
        self.assert_tells(6 * GREAT + 3, fewest, wide, (*rows, *empty), (
            rows[1], rows[0], rows[3], rows[2], rows[5], rows[4], *empty))
        self.assert_tells(6 * GREAT, fewest, wide, (*rows, *empty), (*empty, *rows))

    def test_a_room_that_is_full_in_the_wish_alone_shuts_nothing(self):
        self.assert_tells(1, fewest, ((1, 1), 1), ((0,), (1,)), ((1,), (0,)))
        self.assert_tells(2, fewest, ((2, 2), 1), ((2,), (0,)), ((0,), (2,)))

    def test_the_same_stand(self):
        for house in SMALL:
            for stand in stands_of(house):
                self.assert_tells(0, fewest, house, stand, stand)

    def test_the_same_stand_of_a_full_house(self):
        self.assert_tells(0, fewest, ((1,), 1), ((1,),), ((1,),))
        self.assert_tells(0, fewest, ((2, 3), 2), ((1, 1), (0, 3)), ((1, 1), (0, 3)))
        full = ((GREAT - 5, 1, 1, 1, 1, 1),) * 8
        self.assert_tells(0, fewest, ((GREAT,) * 8, 6), full, full)


class Refused(Asking):

    def test_the_first_unlike_kind(self):
        house = ((9, 9), 3)
        stand = ((1, 2, 3), (1, 0, 0))
        self.assert_refuses(Unlike, "kind", 0, fewest, house, stand, ((1, 2, 3), (0, 0, 0)))
        self.assert_refuses(Unlike, "kind", 1, fewest, house, stand, ((2, 1, 0), (0, 0, 3)))
        self.assert_refuses(Unlike, "kind", 2, fewest, house, stand, ((0, 1, 4), (2, 1, 0)))
        self.assert_refuses(Unlike, "kind", 1, fewest, house, stand, ((2, 3, 4), (0, 0, 0)))
        self.assert_refuses(Unlike, "kind", 0, fewest, house, stand, ((0, 0, 0), (0, 0, 0)))

    def test_more_of_one_do_not_make_up_for_fewer_of_another(self):
        self.assert_refuses(Unlike, "kind", 0, fewest, ((2, 2), 2), ((1, 1), (0, 0)), ((2, 0), (0, 0)))

    def test_unlike_by_one_among_great_numbers(self):
        house = ((GREAT, GREAT), 1)
        self.assert_refuses(Unlike, "kind", 0, fewest, house, ((GREAT,), (0,)), ((0,), (GREAT - 1,)))

    def test_unlike_ahead_of_no_place(self):
        house = ((1, 1), 2)
        self.assert_refuses(Unlike, "kind", 0, fewest, house, ((1, 0), (0, 1)), ((0, 1), (0, 1)))
        self.assert_refuses(Unlike, "kind", 1, fewest, house, ((1, 0), (0, 1)), ((1, 0), (0, 0)))

    def test_no_place(self):
        self.assert_refuses(NoPlace, None, None, fewest, ((1, 1), 2), ((1, 0), (0, 1)), ((0, 1), (1, 0)))
        self.assert_refuses(NoPlace, None, None, fewest, ((2, 1), 2), ((1, 1), (0, 1)), ((0, 2), (1, 0)))
        house = ((GREAT, GREAT), 2)
        stand = ((GREAT, 0), (1, GREAT - 1))
        self.assert_refuses(NoPlace, None, None, fewest, house, stand, ((GREAT - 1, 1), (2, GREAT - 2)))

    def test_a_place_in_any_room_is_enough(self):
        for room in range(4):
            sizes = tuple(2 if at == room else 1 for at in range(4))
            stand = ((1, 0), (0, 1), (1, 0), (1, 0))
            self.assert_tells(2 if room < 2 else 3, fewest, (sizes, 2), stand, ((0, 1), (1, 0), (1, 0), (1, 0)))

    def test_of_all_stands(self):
        for house in [((1, 1), 2), ((2, 1), 2), ((1, 1, 1), 2)]:
            for stand, wish in itertools.product(stands_of(house), repeat=2):
                have, want = [[sum(row[kind] for row in one) for kind in range(2)] for one in (stand, wish)]
                if have != want:
                    first = 0 if have[0] != want[0] else 1
                    self.assert_refuses(Unlike, "kind", first, fewest, house, stand, wish)
                elif stand != wish and sum(have) == sum(house[0]):
                    self.assert_refuses(NoPlace, None, None, fewest, house, stand, wish)
                else:
                    self.assertEqual(stand == wish, self.ask(fewest, house, stand, wish) == 0)


class BeatByBeat(Asking):

    def test_all_stands_of_small_houses(self):
        for house in SMALL:
            beats = {}
            for stand, wish in like_pairs(house):
                if stand not in beats:
                    beats[stand] = beats_from(house, stand)
                if wish in beats[stand]:
                    self.assertEqual(beats[stand][wish], fewest(house, stand, wish), (house, stand, wish))
                else:
                    # No deed can be done where no room has a place, and nothing else keeps from a wish.
                    self.assertEqual(sum(house[0]), sum(map(sum, stand)), (house, stand, wish))
                    self.assert_refuses(NoPlace, None, None, fewest, house, stand, wish)

    def test_from_stands_of_wider_houses(self):
        told = [
            (HOUSE, ((1, 0, 0, 0, 0), (0, 1, 0, 0, 0), (0, 0, 1, 0, 0), (0, 0, 0, 1, 0), (0, 0, 0, 0, 0), (0,) * 5)),
            (((1,) * 5, 4), ((1, 0, 0, 0), (0, 1, 0, 0), (0, 0, 1, 0), (0, 0, 0, 1), (0, 0, 0, 0))),
            (((1,) * 7, 2), ((1, 0), (0, 1), (1, 0), (0, 1), (1, 0), (0, 1), (0, 0))),
            (((2, 2, 2, 1), 3), ((1, 1, 0), (0, 1, 1), (1, 0, 1), (0, 0, 0))),
            (((3, 2, 1, 2), 2), ((2, 1), (0, 2), (1, 0), (1, 0))),
        ]
        for house, stand in told:
            for wish, beat in beats_from(house, stand).items():
                self.assertEqual(beat, fewest(house, stand, wish), (house, stand, wish))
                self.assertEqual(beat, fewest(house, wish, stand), (house, stand, wish))

    def test_two_shut_pieces_beat_by_beat(self):
        house = ((1,) * 5, 4)
        stand = ((1, 0, 0, 0), (0, 1, 0, 0), (0, 0, 1, 0), (0, 0, 0, 1), (0, 0, 0, 0))
        wish = (stand[1], stand[0], stand[3], stand[2], stand[4])
        self.assertEqual(6, beats_from(house, stand)[wish])
        self.assert_tells(6, fewest, house, stand, wish)


class Far(Asking):

    def test_back_it_is_as_far_and_by_way_of_a_third_never_less(self):
        chance = random.Random(5)
        for _ in range(300):
            sizes = tuple(chance.randrange(1, 4) for _ in range(chance.randrange(2, 9)))
            house = (sizes, chance.randrange(1, 7))
            one, other, third = grown(chance, house, sum(sizes) - 1, 3)
            there = self.ask(fewest, house, one, other)
            self.assertEqual(there, fewest(house, other, one))
            self.assertLessEqual(there, fewest(house, one, third) + fewest(house, third, other))


if __name__ == "__main__":
    unittest.main()
