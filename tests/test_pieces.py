"""What is amiss, and pieces [8], [9]."""

import itertools
import unittest

from asking import Asking, stands_of
from fullrooms.houses import things
from fullrooms.pieces import amiss, is_shut, pieces, shut_pieces, too_many

GREAT = 10 ** 12


def pieces_by_ties(stand, wish):
    """The pieces as sets that are made one as long as two of them share a room or a kind."""
    heaps = [
        {("room", room), ("kind", kind)}
        for room, row in enumerate(stand) for kind, many in enumerate(row) if many != wish[room][kind]
    ]
    for _ in range(len(heaps)):
        for one, other in itertools.combinations(heaps, 2):
            if one & other:
                heaps = [heap for heap in heaps if heap is not one and heap is not other] + [one | other]
                break
    return tuple(sorted(
        tuple(tuple(sorted(at for what, at in heap if what == word)) for word in ("room", "kind"))
        for heap in heaps
    ))


class Amiss(Asking):

    def test_room_by_room_and_kind_by_kind(self):
        stand = ((3, 0), (0, 2), (1, 1))
        wish = ((1, 1), (3, 0), (0, 2))
        self.assert_tells(((2, -1), (-3, 2), (1, -1)), amiss, stand, wish)
        self.assert_tells(((-2, 1), (3, -2), (-1, 1)), amiss, wish, stand)
        self.assert_tells(((5, 0, -7),), amiss, ((5, 4, 0),), ((0, 4, 7),))
        self.assert_tells(((1,), (-1,)), amiss, ((1,), (0,)), ((0,), (1,)))

    def test_the_same(self):
        for stand in stands_of(((2, 1), 2)):
            self.assert_tells(((0, 0), (0, 0)), amiss, stand, stand)
            self.assert_tells(0, too_many, stand, stand)

    def test_great_numbers(self):
        self.assert_tells(((GREAT,), (-GREAT,)), amiss, ((GREAT,), (0,)), ((0,), (GREAT,)))
        self.assert_tells(GREAT, too_many, ((GREAT,), (0,)), ((0,), (GREAT,)))
        self.assert_tells(8 * GREAT, too_many, ((GREAT, 0),) * 8, ((0, GREAT),) * 8)

    def test_too_many(self):
        self.assert_tells(5, too_many, ((3, 0), (0, 2), (1, 1)), ((1, 1), (3, 0), (0, 2)))
        self.assert_tells(1, too_many, ((1,), (0,)), ((0,), (1,)))
        self.assert_tells(2, too_many, ((1, 0), (0, 1)), ((0, 1), (1, 0)))

    def test_of_unlike_things(self):
        self.assert_tells(((3, -1), (0, -2)), amiss, ((3, 0), (1, 0)), ((0, 1), (1, 2)))
        self.assert_tells(3, too_many, ((3, 0), (1, 0)), ((0, 1), (1, 2)))
        self.assert_tells(0, too_many, ((0, 0),), ((4, 5),))
        self.assert_tells(9, too_many, ((4, 5),), ((0, 0),))

    def test_of_all_stands(self):
        for stand, wish in itertools.product(stands_of(((2, 1), 2)), repeat=2):
            odds = tuple(
                tuple(stand[room][kind] - wish[room][kind] for kind in range(2)) for room in range(2)
            )
            self.assert_tells(odds, amiss, stand, wish)
            self.assert_tells(sum(odd for row in odds for odd in row if odd > 0), too_many, stand, wish)
            if things(stand) == things(wish):
                self.assertEqual(too_many(stand, wish), too_many(wish, stand))


class Pieces(Asking):

    def test_no_piece(self):
        for stand in stands_of(((2, 1), 2)):
            self.assert_tells((), pieces, stand, stand)
        self.assert_tells((), pieces, ((0,),), ((0,),))

    def test_one_piece(self):
        self.assert_tells((((0, 1), (0,)),), pieces, ((1, 0), (0, 0), (0, 5)), ((0, 0), (1, 0), (0, 5)))
        self.assert_tells((((1, 2), (1,)),), pieces, ((4, 0), (0, 1), (0, 0)), ((4, 0), (0, 0), (0, 1)))

    def test_two_rooms_and_two_kinds_in_one(self):
        self.assert_tells((((0, 1), (0, 1)),), pieces, ((1, 0), (0, 1)), ((0, 1), (1, 0)))

    def test_several_by_their_first_rooms(self):
        stand = ((0, 0, 1), (1, 0, 0), (0, 1, 0), (0, 0, 0), (0, 0, 0), (0, 0, 0))
        wish = ((0, 0, 0), (0, 0, 0), (0, 0, 0), (0, 1, 0), (1, 0, 0), (0, 0, 1))
        self.assert_tells((((0, 5), (2,)), ((1, 4), (0,)), ((2, 3), (1,))), pieces, stand, wish)

    def test_interlocked_pieces_with_several_kinds(self):
        stand = ((1, 0, 0, 0), (0, 1, 0, 0), (0, 0, 1, 0), (0, 0, 0, 1))
        wish = ((0, 0, 1, 0), (0, 0, 0, 1), (1, 0, 0, 0), (0, 1, 0, 0))
        self.assert_tells((((0, 2), (0, 2)), ((1, 3), (1, 3))), pieces, stand, wish)

    def test_hanging_together_by_way_of_others_alone(self):
        # Rooms 0 and 5 share no kind: a chain of kinds and rooms between lies, told crosswise.
        chain = (0, 3, 1, 4, 2, 5)
        stand = [[0] * 5 for _ in range(6)]
        wish = [[0] * 5 for _ in range(6)]
        for kind, (here, there) in enumerate(zip(chain, chain[1:])):
            stand[here][4 - kind] += 1
            wish[there][4 - kind] += 1
        stand = tuple(map(tuple, stand))
        wish = tuple(map(tuple, wish))
        self.assert_tells((((0, 1, 2, 3, 4, 5), (0, 1, 2, 3, 4)),), pieces, stand, wish)
        self.assert_tells((((0, 1, 2, 3, 4, 5), (0, 1, 2, 3, 4)),), pieces, wish, stand)

    def test_a_chain_over_the_widest_house(self):
        stand = tuple(tuple(1 if kind in (room, room - 1) else 0 for kind in range(6)) for room in range(8))
        self.assert_tells((((0, 1, 2, 3, 4, 5, 6), (0, 1, 2, 3, 4, 5)),), pieces, stand, ((0,) * 6,) * 8)

    def test_rooms_and_kinds_without_ties_are_in_none(self):
        stand = ((1, 7, 0), (2, 2, 2), (0, 7, 0))
        wish = ((0, 7, 0), (2, 2, 2), (1, 7, 0))
        self.assert_tells((((0, 2), (0,)),), pieces, stand, wish)

    def test_what_lacks_ties_as_what_is_too_many(self):
        self.assert_tells((((0,), (1,)),), pieces, ((1, 0), (0, 0)), ((1, 3), (0, 0)))
        self.assert_tells((((0,), (1,)),), pieces, ((1, 3), (0, 0)), ((1, 0), (0, 0)))

    def test_of_unlike_things(self):
        self.assert_tells((((0,), (0,)), ((1,), (1,))), pieces, ((3, 0), (1, 0)), ((0, 0), (1, 2)))
        self.assert_tells((((0,), (0, 1)),), pieces, ((3, 0), (1, 0)), ((0, 1), (1, 0)))
        self.assert_tells((((0,), (1, 2)),), pieces, ((3, 0, 1),), ((3, 1, 0),))
        self.assert_tells((((0,), (0,)),), pieces, ((0,),), ((1,),))

    def test_of_all_stands(self):
        for house in [((1, 1, 1), 3), ((2, 1), 2), ((1, 1, 1, 1), 1)]:
            for stand, wish in itertools.product(stands_of(house), repeat=2):
                self.assert_tells(pieces_by_ties(stand, wish), pieces, stand, wish)


class Shut(Asking):

    def test_is_shut(self):
        house = ((2, 1, 3), 2)
        stand = ((1, 1), (1, 0), (2, 0))
        self.assert_tells(True, is_shut, house, stand, ((0, 1), (0, 1)))
        self.assert_tells(True, is_shut, house, stand, ((1,), (0,)))
        self.assert_tells(False, is_shut, house, stand, ((2,), (0,)))
        self.assert_tells(False, is_shut, house, stand, ((0, 2), (0, 1)))
        self.assert_tells(False, is_shut, house, stand, ((1, 2), (1,)))

    def test_is_shut_of_any_rooms_and_kinds(self):
        house = ((1, 2, 1), 2)
        for stand in stands_of(house):
            for many in range(4):
                for rooms in itertools.combinations(range(3), many):
                    full = all(sum(stand[room]) == house[0][room] for room in rooms)
                    for kinds in [(), (0,), (1,), (0, 1)]:
                        self.assert_tells(full, is_shut, house, stand, (rooms, kinds))

    def test_one_place_among_great_numbers(self):
        house = ((GREAT, GREAT), 1)
        self.assert_tells(True, is_shut, house, ((GREAT,), (GREAT,)), ((0, 1), (0,)))
        self.assert_tells(False, is_shut, house, ((GREAT,), (GREAT - 1,)), ((0, 1), (0,)))

    def test_shut_pieces(self):
        house = ((1, 1, 1, 1, 2), 4)
        stand = ((1, 0, 0, 0), (0, 1, 0, 0), (0, 0, 1, 0), (0, 0, 0, 1), (0, 0, 0, 0))
        wish = ((0, 0, 1, 0), (0, 0, 0, 1), (1, 0, 0, 0), (0, 1, 0, 0), (0, 0, 0, 0))
        self.assert_tells((((0, 2), (0, 2)), ((1, 3), (1, 3))), shut_pieces, house, stand, wish)
        wider = ((1, 1, 2, 1, 2), 4)
        self.assert_tells((((1, 3), (1, 3)),), shut_pieces, wider, stand, wish)
        wider = ((1, 1, 2, 2, 2), 4)
        self.assert_tells((), shut_pieces, wider, stand, wish)

    def test_a_piece_with_a_full_room_and_one_with_a_place(self):
        house = ((1, 2), 1)
        self.assert_tells((), shut_pieces, house, ((1,), (0,)), ((0,), (1,)))
        house = ((1, 1, 5), 2)
        stand = ((1, 0), (0, 1), (2, 0))
        self.assert_tells((((0, 1), (0, 1)),), shut_pieces, house, stand, ((0, 1), (1, 0), (2, 0)))

    def test_none_where_nothing_is_amiss(self):
        self.assert_tells((), shut_pieces, ((1, 1), 2), ((1, 0), (0, 1)), ((1, 0), (0, 1)))

    def test_places_are_those_of_the_stand_not_of_the_wish(self):
        house = ((1, 1), 1)
        self.assert_tells((), shut_pieces, house, ((1,), (0,)), ((0,), (1,)))
        house = ((2, 2, 2), 2)
        stand = ((1, 1), (1, 1), (0, 0))
        self.assert_tells((((0, 1), (0, 1)),), shut_pieces, house, stand, ((2, 0), (0, 2), (0, 0)))

    def test_of_all_stands(self):
        for house in [((1, 1, 1), 3), ((2, 1), 2), ((1, 2, 1), 1)]:
            stands = stands_of(house)
            for stand, wish in itertools.product(stands, repeat=2):
                if things(stand) == things(wish):
                    shut = tuple(
                        piece for piece in pieces_by_ties(stand, wish)
                        if all(sum(stand[room]) == house[0][room] for room in piece[0])
                    )
                    self.assert_tells(shut, shut_pieces, house, stand, wish)


if __name__ == "__main__":
    unittest.main()
