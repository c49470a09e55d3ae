"""Papers that no fewer do, and bars [11], [12], and what [3] says of what a judge lets by."""

import itertools
import random
import unittest

from asking import Asking, beats_from, grown, like_pairs, odd_things, spoilt, stands_of
from fullrooms.errors import NoPlace, Unlike
from fullrooms.fewest import fewest
from fullrooms.papers import bar_holds, none_fewer, none_fewer_holds
from fullrooms.pieces import shut_pieces, too_many

GREAT = 10 ** 12
# Shut are rooms 0 and 2 with kinds 0 and 2, and rooms 1 and 3 with kinds 1 and 3. Room 4 is full, and tied to
# nothing, as is kind 4. Rooms 5 and 6 are a piece with kind 5 and have places.
HOUSE = ((1, 1, 1, 1, 1, 2, 2), 6)
STAND = (
    (1, 0, 0, 0, 0, 0), (0, 1, 0, 0, 0, 0), (0, 0, 1, 0, 0, 0), (0, 0, 0, 1, 0, 0), (0, 0, 0, 0, 1, 0),
    (0, 0, 0, 0, 0, 1), (0, 0, 0, 0, 0, 0),
)
WISH = (STAND[2], STAND[3], STAND[0], STAND[1], STAND[4], STAND[6], STAND[5])
ONE = ((0, 2), (0, 2))
OTHER = ((1, 3), (1, 3))


def subsets(many):
    """All rising tuples of the numbers from 0 to below many."""
    return [row for length in range(many + 1) for row in itertools.combinations(range(many), length)]


def pairs_of(house):
    """All pairs of a rising tuple of rooms and one of kinds."""
    return list(itertools.product(subsets(len(house[0])), subsets(house[1])))


def ties_of(stand, wish):
    """All pairs of a room and a kind that are tied."""
    return {
        (room, kind)
        for room, row in enumerate(stand) for kind, many in enumerate(row) if many != wish[room][kind]
    }


def lets_by(house, stand, wish, sets):
    """Whether sets of the right form are a paper's, clause by clause as [11] tells them."""
    ties = ties_of(stand, wish)
    for one, other in itertools.combinations(sets, 2):
        if set(one[0]) & set(other[0]) or set(one[1]) & set(other[1]):
            return False
    for rooms, kinds in sets:
        full = all(sum(stand[room]) == house[0][room] for room in rooms)
        some = any(room in rooms for room, kind in ties)
        within = all((room in rooms) == (kind in kinds) for room, kind in ties)
        if not (full and some and within):
            return False
    return True


class NoneFewer(Asking):

    def test_the_fewest_and_all_shut_pieces(self):
        self.assert_tells((7, (ONE, OTHER)), none_fewer, HOUSE, STAND, WISH)
        self.assert_tells((1, ()), none_fewer, ((1, 1), 1), ((1,), (0,)), ((0,), (1,)))
        self.assert_tells(
            (3, (((0, 1), (0, 1)),)), none_fewer, ((2, 2, 3), 2), ((2, 0), (0, 2), (1, 0)), ((1, 1), (1, 1), (1, 0))
        )

    def test_of_the_same_stand(self):
        self.assert_tells((0, ()), none_fewer, HOUSE, STAND, STAND)
        self.assert_tells((0, ()), none_fewer, ((1, 1), 2), ((1, 0), (0, 1)), ((1, 0), (0, 1)))

    def test_of_great_numbers(self):
        house = ((GREAT, GREAT, 1), 2)
        stand = ((GREAT, 0), (0, GREAT), (0, 0))
        paper = (2 * GREAT + 1, (((0, 1), (0, 1)),))
        self.assert_tells(paper, none_fewer, house, stand, (stand[1], stand[0], stand[2]))
        self.assert_tells(True, none_fewer_holds, house, stand, (stand[1], stand[0], stand[2]), paper)

    def test_refused_as_fewest(self):
        self.assert_refuses(Unlike, "kind", 0, none_fewer, ((2, 2), 2), ((1, 1), (0, 0)), ((0, 0), (0, 0)))
        self.assert_refuses(Unlike, "kind", 1, none_fewer, ((2, 2), 2), ((1, 1), (0, 0)), ((0, 0), (1, 0)))
        self.assert_refuses(Unlike, "kind", 1, none_fewer, ((1, 1), 2), ((1, 0), (0, 1)), ((0, 0), (1, 0)))
        self.assert_refuses(NoPlace, None, None, none_fewer, ((1, 1), 2), ((1, 0), (0, 1)), ((0, 1), (1, 0)))

    def test_it_is_let_by_and_is_no_less_than_the_fewest(self):
        chance = random.Random(11)
        for _ in range(300):
            sizes = tuple(chance.randrange(1, 3) for _ in range(chance.randrange(2, 9)))
            house = (sizes, chance.randrange(1, 7))
            stand, wish = grown(chance, house, sum(sizes) - 1, 2)
            paper = self.ask(none_fewer, house, stand, wish)
            self.assertEqual((fewest(house, stand, wish), shut_pieces(house, stand, wish)), paper)
            self.assert_tells(True, none_fewer_holds, house, stand, wish, paper)


class NoneFewerHolds(Asking):

    def holds(self, sets, more=0, house=HOUSE, stand=STAND, wish=WISH):
        number = too_many(stand, wish) + len(sets) + more
        return self.ask(none_fewer_holds, house, stand, wish, (number, sets))

    def test_all_some_or_none_of_the_shut_pieces(self):
        for sets in [(ONE, OTHER), (ONE,), (OTHER,), ()]:
            self.assertIs(True, self.holds(sets), sets)

    def test_sets_in_any_order(self):
        self.assertIs(True, self.holds((OTHER, ONE)))

    def test_two_pieces_as_one_set(self):
        self.assertIs(True, self.holds((((0, 1, 2, 3), (0, 1, 2, 3)),)))
        self.assertIs(False, self.holds((((0, 1, 2, 3), (0, 1, 2, 3)),), 1))

    def test_full_rooms_and_kinds_that_are_tied_to_nothing(self):
        for rooms, kinds in [((0, 2, 4), (0, 2)), ((0, 2), (0, 2, 4)), ((0, 2, 4), (0, 2, 4))]:
            self.assertIs(True, self.holds(((rooms, kinds),)))
            self.assertIs(True, self.holds(((rooms, kinds), OTHER)))
            self.assertIs(True, self.holds((OTHER, (rooms, kinds))))

    def test_a_number_one_more_or_less(self):
        for sets in [(ONE, OTHER), (OTHER, ONE), (ONE,), ()]:
            for more in (-GREAT, -7, -2, -1, 1, 2, 10 ** 59):
                self.assertIs(False, self.holds(sets, more), (sets, more))

    def test_a_room_in_two_sets(self):
        self.assertIs(False, self.holds((ONE, ONE)))
        self.assertIs(False, self.holds((ONE, OTHER, ONE)))
        self.assertIs(True, self.holds((((0, 2, 4), (0, 2)), OTHER)))
        self.assertIs(False, self.holds((((0, 2, 4), (0, 2)), ((1, 3, 4), (1, 3)))))

    def test_a_kind_in_two_sets(self):
        self.assertIs(True, self.holds((((0, 2), (0, 2, 4)), OTHER)))
        self.assertIs(False, self.holds((((0, 2), (0, 2, 4)), ((1, 3), (1, 3, 4)))))

    def test_a_room_with_a_place(self):
        for room in (0, 2):
            sizes = tuple(size + 1 if at == room else size for at, size in enumerate(HOUSE[0]))
            self.assertIs(False, self.holds((ONE,), house=(sizes, 6)))
            self.assertIs(False, self.holds((ONE, OTHER), house=(sizes, 6)))
            self.assertIs(True, self.holds((OTHER,), house=(sizes, 6)))
        wider = ((1, 1, 1, 1, 2, 2, 2), 6)
        self.assertIs(True, self.holds((ONE,), house=wider))
        self.assertIs(False, self.holds((((0, 2, 4), (0, 2)),), house=wider))
        self.assertIs(False, self.holds((((5, 6), (5,)),)))

    def test_no_room_of_a_set_tied_to_a_kind_of_it(self):
        for pair in [((), ()), ((4,), ()), ((), (4,)), ((4,), (4,))]:
            self.assertIs(False, self.holds((pair,)), pair)
            self.assertIs(False, self.holds((ONE, pair, OTHER)), pair)

    def test_a_room_tied_to_a_kind_outside(self):
        for pair in [((0, 2), ()), ((0, 1, 2), (0, 2)), ((0, 2, 3), (0, 2))]:
            self.assertIs(False, self.holds((pair,)), pair)
        # All rooms of kind 0 are in the set, and kind 1 leads out of it all the same; so the other way round.
        house, stand = ((1, 1, 1, 1), 2), ((1, 0), (0, 1), (1, 0), (0, 0))
        wish = ((0, 1), (1, 0), (1, 0), (0, 0))
        self.assertIs(True, self.holds((((0, 1), (0, 1)),), house=house, stand=stand, wish=wish))
        self.assertIs(False, self.holds((((0, 1), (0,)),), house=house, stand=stand, wish=wish))
        self.assertIs(False, self.holds((((0, 1), (1,)),), house=house, stand=stand, wish=wish))

    def test_a_kind_tied_to_a_room_outside(self):
        for pair in [((), (0, 2)), ((0, 2), (0, 1, 2)), ((0, 2), (0, 2, 3)), ((0, 2), (0, 2, 5))]:
            self.assertIs(False, self.holds((pair,)), pair)
        house, stand = ((1, 1, 1), 2), ((1, 0), (0, 1), (0, 0))
        wish = ((0, 1), (1, 0), (0, 0))
        self.assertIs(False, self.holds((((0,), (0, 1)),), house=house, stand=stand, wish=wish))
        self.assertIs(False, self.holds((((1,), (0, 1)),), house=house, stand=stand, wish=wish))

    def test_rows_not_rising(self):
        for pair in [((2, 0), (0, 2)), ((0, 2), (2, 0)), ((0, 0, 2), (0, 2)), ((0, 2), (0, 2, 2)), ((2, 4, 0), (0, 2))]:
            self.assertIs(False, self.holds((pair,)), pair)
            self.assertIs(False, self.holds((OTHER, pair)), pair)

    def test_no_rooms_and_no_kinds_numbers(self):
        for odd in [-1, 7, GREAT, 10 ** 59, *odd_things()]:
            self.assertIs(False, self.holds((((0, 2, odd), (0, 2)),)))
            self.assertIs(False, self.holds((((odd, 0, 2), (0, 2)),)))
        for odd in [-1, 6, GREAT, 10 ** 59, *odd_things()]:
            self.assertIs(False, self.holds((((0, 2), (0, 2, odd)),)))
            self.assertIs(False, self.holds((((0, 2), (odd, 0, 2)),)))

    def test_true_is_no_1(self):
        house, stand = ((1, 1, 1), 2), ((1, 0), (0, 1), (0, 0))
        wish = ((0, 1), (1, 0), (0, 0))
        self.assert_tells(True, none_fewer_holds, house, stand, wish, (3, (((0, 1), (0, 1)),)))
        for rooms, kinds in itertools.product([(0, True), (False, 1), (False, True), (0, 1)], repeat=2):
            if repr((rooms, kinds)) != repr(((0, 1), (0, 1))):
                self.assert_tells(False, none_fewer_holds, house, stand, wish, (3, ((rooms, kinds),)))
        moved = ((0,), (1,))
        self.assert_tells(True, none_fewer_holds, ((1, 1), 1), ((1,), (0,)), moved, (1, ()))
        self.assert_tells(False, none_fewer_holds, ((1, 1), 1), ((1,), (0,)), moved, (True, ()))
        self.assert_tells(True, none_fewer_holds, ((1, 1), 1), moved, moved, (0, ()))
        self.assert_tells(False, none_fewer_holds, ((1, 1), 1), moved, moved, (False, ()))

    def test_lists_in_the_place_of_tuples(self):
        for thing in [
            [7, (ONE, OTHER)], (7, [ONE, OTHER]), (7, (list(ONE), OTHER)), (7, (ONE, list(OTHER))),
            (7, (([0, 2], (0, 2)), OTHER)), (7, (ONE, ((1, 3), [1, 3]))), (7, ((ONE, OTHER),)), (7, ONE, OTHER),
            (7, (ONE, {0: (1, 3), 1: (1, 3)})), {0: 7, 1: (ONE, OTHER)}, (7, {ONE: True, OTHER: True}),
        ]:
            self.assert_tells(False, none_fewer_holds, HOUSE, STAND, WISH, thing)

    def test_something_put_otherwise(self):
        for paper in [(7, (ONE, OTHER)), (6, (ONE,)), (6, (OTHER,)), (6, (((0, 1, 2, 3), (0, 1, 2, 3)),)), (5, ())]:
            self.assert_tells(True, none_fewer_holds, HOUSE, STAND, WISH, paper)
            for thing in spoilt(paper):
                if repr(thing) != repr(paper):
                    self.assert_tells(False, none_fewer_holds, HOUSE, STAND, WISH, thing)

    def test_anything_else(self):
        for thing in [0, 5, 7, 10 ** 59, (ONE, OTHER), ONE, (7,), ((ONE, OTHER), 7), *odd_things()]:
            self.assert_tells(False, none_fewer_holds, HOUSE, STAND, WISH, thing)
            self.assert_tells(thing == (ONE, OTHER), none_fewer_holds, HOUSE, STAND, WISH, (7, thing))
            self.assert_tells(False, none_fewer_holds, HOUSE, STAND, WISH, (7, (ONE, thing)))
            self.assert_tells(False, none_fewer_holds, HOUSE, STAND, WISH, (7, (ONE, (thing, (1, 3)))))
            self.assert_tells(False, none_fewer_holds, HOUSE, STAND, WISH, (7, (ONE, ((1, 3), thing))))
            if thing != 7:
                self.assert_tells(False, none_fewer_holds, HOUSE, STAND, WISH, (thing, (ONE, OTHER)))

    def test_a_thousand_things_a_thousand_times(self):
        row = (0,) * 1000
        self.assertIs(False, none_fewer_holds(HOUSE, STAND, WISH, (1005, ((row, row),) * 1000)))
        self.assertIs(False, none_fewer_holds(HOUSE, STAND, WISH, (1005, (ONE,) * 1000)))
        deep = 0
        for _ in range(20):
            deep = (deep,) * 1000
        self.assertIs(False, none_fewer_holds(HOUSE, STAND, WISH, deep))
        self.assertIs(False, none_fewer_holds(HOUSE, STAND, WISH, (6, deep)))
        self.assertIs(False, none_fewer_holds(HOUSE, STAND, WISH, (6, ((deep, deep),))))

    def test_of_a_full_house_the_words_hold_as_well(self):
        # There is no way, so no plan has fewer deeds; [11] asks for no place.
        house, stand, wish = ((1, 1), 2), ((1, 0), (0, 1)), ((0, 1), (1, 0))
        self.assert_tells(True, none_fewer_holds, house, stand, wish, (3, (((0, 1), (0, 1)),)))
        self.assert_tells(True, none_fewer_holds, house, stand, wish, (2, ()))
        self.assert_tells(False, none_fewer_holds, house, stand, wish, (3, ()))

    def test_of_unlike_things_nothing_is(self):
        unlike = [WISH[:6] + ((0,) * 6,), WISH[:6] + ((0, 0, 0, 0, 0, 2),), WISH[:6] + ((0, 0, 0, 0, 1, 0),)]
        for wish in unlike:
            for sets in [(ONE, OTHER), (ONE,), (OTHER,), ()]:
                for more in range(-3, 4):
                    self.assertIs(False, self.holds(sets, more, wish=wish))
        house = ((1, 1), 2)
        told = [()] + [(pair,) for pair in pairs_of(house)]
        alike = like_pairs(house)
        for stand, wish in itertools.product(stands_of(house), repeat=2):
            if (stand, wish) not in alike:
                for sets in told:
                    self.assertIs(False, self.holds(sets, house=house, stand=stand, wish=wish))

    def test_all_papers_of_one_set_in_small_houses(self):
        for house in [((1, 1, 1), 3), ((2, 1), 2), ((2, 1, 1), 2), ((1, 1, 1, 1), 2)]:
            pairs = pairs_of(house)
            for stand, wish in like_pairs(house):
                self.look_over(house, stand, wish, [()] + [(pair,) for pair in pairs])

    def test_all_papers_of_two_sets_in_small_houses(self):
        house = ((1, 1, 1), 2)
        told = list(itertools.product(pairs_of(house), repeat=2))
        for stand, wish in like_pairs(house):
            self.look_over(house, stand, wish, told)
        house = ((1, 1, 1, 1), 4)
        told = list(itertools.product(pairs_of(house), repeat=2))
        stand = ((1, 0, 0, 0), (0, 1, 0, 0), (0, 0, 1, 0), (0, 0, 0, 1))
        self.look_over(house, stand, (stand[1], stand[0], stand[3], stand[2]), told)
        self.look_over(house, stand, stand[1:] + stand[:1], told)

    def look_over(self, house, stand, wish, told):
        """Hold the judge against the words, and what is let by against all deeds, beat by beat."""
        beat = beats_from(house, stand).get(wish)
        many = sum(max(0, here - there) for rows in zip(stand, wish) for here, there in zip(*rows))
        for sets in told:
            number = many + len(sets)
            fits = lets_by(house, stand, wish, sets)
            self.assertIs(fits, none_fewer_holds(house, stand, wish, (number, sets)), (house, stand, wish, sets))
            if fits and beat is not None:
                self.assertLessEqual(number, beat, (house, stand, wish, sets))

    def test_papers_of_two_shut_pieces_beat_by_beat(self):
        house = ((1,) * 5, 4)
        stand = ((1, 0, 0, 0), (0, 1, 0, 0), (0, 0, 1, 0), (0, 0, 0, 1), (0, 0, 0, 0))
        pairs = [
            ((0, 1), (0, 1)), ((2, 3), (2, 3)), ((0, 2), (0, 2)), ((1, 3), (1, 3)), ((0, 1, 2, 3), (0, 1, 2, 3)),
            ((0, 1, 2), (0, 1, 2)), ((0,), (0,)), ((3,), (3,)), ((0, 1, 4), (0, 1)), ((4,), ()), ((), ()),
        ]
        told = [sets for many in range(4) for sets in itertools.product(pairs, repeat=many)]
        for wish in [
            (stand[1], stand[0], stand[3], stand[2], stand[4]), (stand[2], stand[3], stand[0], stand[1], stand[4]),
            (stand[1], stand[0], *stand[2:]), (stand[1], stand[2], stand[3], stand[0], stand[4]), stand,
            (stand[1], stand[0], stand[2], stand[4], stand[3]),
        ]:
            self.look_over(house, stand, wish, told)


class BarHolds(Asking):

    def test_each_kind_of_which_both_have_as_many_or_not(self):
        house = ((9, 9), 4)
        stand = ((1, 2, 3, 0), (1, 0, 0, 1))
        wish = ((2, 1, 0, 0), (0, 0, 3, 0))
        for kind, unlike in enumerate([False, True, False, True]):
            self.assert_tells(unlike, bar_holds, house, stand, wish, ("things", kind))
            self.assert_tells(unlike, bar_holds, house, wish, stand, ("things", kind))
            self.assert_tells(False, bar_holds, house, stand, stand, ("things", kind))

    def test_unlike_by_one_among_great_numbers(self):
        house = ((GREAT, GREAT), 1)
        self.assert_tells(True, bar_holds, house, ((GREAT,), (0,)), ((0,), (GREAT - 1,)), ("things", 0))
        self.assert_tells(False, bar_holds, house, ((GREAT,), (0,)), ((0,), (GREAT,)), ("things", 0))

    def test_full(self):
        full = ((1, 0), (0, 1))
        turned = ((0, 1), (1, 0))
        self.assert_tells(True, bar_holds, ((1, 1), 2), full, turned, ("full",))
        self.assert_tells(False, bar_holds, ((1, 1), 2), full, full, ("full",))
        self.assert_tells(False, bar_holds, ((1, 2), 2), full, turned, ("full",))
        self.assert_tells(False, bar_holds, ((2, 1), 2), full, turned, ("full",))
        self.assert_tells(False, bar_holds, ((2, 1), 2), full, full, ("full",))

    def test_full_of_unlike_things(self):
        full = ((1, 0), (0, 1))
        for wish in [((0, 0), (0, 0)), ((0, 1), (0, 1)), ((1, 0), (0, 0)), ((1, 0), (1, 0))]:
            self.assert_tells(True, bar_holds, ((1, 1), 2), full, wish, ("full",))
            self.assert_tells(False, bar_holds, ((1, 2), 2), full, wish, ("full",))

    def test_a_full_wish_is_no_bar(self):
        self.assert_tells(False, bar_holds, ((1, 1), 1), ((1,), (0,)), ((1,), (1,)), ("full",))
        self.assert_tells(True, bar_holds, ((1, 1), 1), ((1,), (0,)), ((1,), (1,)), ("things", 0))

    def test_true_is_no_1(self):
        house = ((9,), 2)
        self.assert_tells(True, bar_holds, house, ((1, 1),), ((0, 0),), ("things", 1))
        self.assert_tells(False, bar_holds, house, ((1, 1),), ((0, 0),), ("things", True))
        self.assert_tells(True, bar_holds, house, ((1, 1),), ((0, 0),), ("things", 0))
        self.assert_tells(False, bar_holds, house, ((1, 1),), ((0, 0),), ("things", False))

    def test_something_put_otherwise(self):
        house, stand, wish = ((1, 1), 2), ((1, 0), (0, 1)), ((0, 0), (0, 0))
        for bar in [("full",), ("things", 0), ("things", 1)]:
            self.assert_tells(True, bar_holds, house, stand, wish, bar)
            for thing in spoilt(bar):
                if repr(thing) != repr(bar):
                    self.assert_tells(False, bar_holds, house, stand, wish, thing)

    def test_lists_other_words_more_or_fewer(self):
        house, stand, wish = ((1, 1), 2), ((1, 0), (0, 1)), ((0, 0), (0, 0))
        for thing in [
            "full", "things", ["full"], ["things", 0], ("things",), ("full", 0), ("full", "full"), ("full", None),
            ("things", 0, 0), ("things", 0, 1), ("things", (0,)), ("things", [0]), ("things", "0"), ("things", None),
            ("things", -1), ("things", 2), ("things", GREAT), ("things", 10 ** 59), ("thing", 0), ("Things", 0),
            ("things ", 0), ("", 0), ("Full",), ("full ",), ("full\n",), ("",), (0, "things"), (("full",),),
            (("things", 0),), {"full": 0}, {"things": 0}, ("plan", ()), ("bar", ("full",)), ("f", "u", "l", "l"),
        ]:
            self.assert_tells(False, bar_holds, house, stand, wish, thing)

    def test_anything_else(self):
        house, stand, wish = ((1, 1), 2), ((1, 0), (0, 1)), ((0, 0), (0, 0))
        for thing in [0, 1, 10 ** 59, *odd_things()]:
            self.assert_tells(False, bar_holds, house, stand, wish, thing)
            self.assert_tells(False, bar_holds, house, stand, wish, (thing,))
            self.assert_tells(False, bar_holds, house, stand, wish, (thing, 0))
            self.assert_tells(False, bar_holds, house, stand, wish, ("full", thing))
            if thing not in (0, 1) or isinstance(thing, bool):
                self.assert_tells(False, bar_holds, house, stand, wish, ("things", thing))

    def test_just_where_there_is_a_bar_there_is_no_way(self):
        for house in [((1, 1), 2), ((2, 1), 2), ((1, 1, 1), 2), ((1, 2), 1), ((1,), 2)]:
            for stand in stands_of(house):
                beats = beats_from(house, stand)
                for wish in stands_of(house):
                    bars = [("full",)] + [("things", kind) for kind in range(house[1])]
                    held = [bar for bar in bars if self.ask(bar_holds, house, stand, wish, bar)]
                    self.assertEqual(wish not in beats, held != [], (house, stand, wish))
                    for kind in range(house[1]):
                        unlike = sum(row[kind] for row in stand) != sum(row[kind] for row in wish)
                        self.assertEqual(unlike, ("things", kind) in held)
                    stuck = stand != wish and sum(map(sum, stand)) == sum(house[0])
                    self.assertEqual(stuck, ("full",) in held)


if __name__ == "__main__":
    unittest.main()
