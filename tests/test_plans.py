"""Plans: their form, judges, length [17], [18], and what is far along them [20]."""

import itertools
import random
import unittest

from asking import (
    GREAT, Asking, beats_from, done, great_task, grown, like_pairs, odd_things, played, shut_task, spoilt
)
from fullrooms.errors import NoNumber
from fullrooms.fewest import fewest
from fullrooms.houses import moved
from fullrooms.plans import after, deed_at, is_least, is_plan, length, plan_holds, worked
from fullrooms.trails import plan

HOUSE = ((2, 2, 3), 2)
STAND = ((2, 0), (0, 2), (1, 0))
WISH = ((1, 1), (1, 1), (1, 0))
LEAST = ((1, ((0, 0, 2), (1, 1, 0), (0, 2, 1))),)
DEED = (0, 1, 2)


def is_form(house, thing):
    """Whether anything is a plan by the words of [17]."""
    def is_number(worth, low, high):
        return type(worth) is int and low <= worth <= high

    if type(thing) is not tuple or len(thing) > 600:
        return False
    for row in thing:
        if type(row) is not tuple or len(row) != 2 or not is_number(row[0], 1, GREAT):
            return False
        if type(row[1]) is not tuple or not 1 <= len(row[1]) <= 20:
            return False
        for deed in row[1]:
            if type(deed) is not tuple or len(deed) != 3 or not is_number(deed[0], 0, house[1] - 1):
                return False
            if not all(is_number(room, 0, len(house[0]) - 1) for room in deed[1:]) or deed[1] == deed[2]:
                return False
    return True


def deeds_of(told):
    """All deeds of a small plan, one by one."""
    return [deed for many, deeds in told for deed in deeds * many]


def stand_by_deeds(house, stand, deeds):
    """The stand behind deeds done one by one; None where one can't be done."""
    for deed in deeds:
        stand = stand and done(house, stand, deed)
    return stand


def any_plan(chance, house, rows=4, most=4):
    """Some plan by its form alone."""
    def any_deed():
        return (chance.randrange(house[1]), *chance.sample(range(len(house[0])), 2))

    return tuple(
        (chance.randrange(1, most), tuple(any_deed() for _ in range(chance.randrange(1, 4))))
        for _ in range(chance.randrange(rows))
    )


def told_otherwise(chance, told):
    """The same deeds by other rows: a row as several ones, or its deeds twice half as often."""
    rows = []
    for many, deeds in told:
        if many % 2 == 0 and len(deeds) <= 10:
            rows.append((many // 2, deeds * 2))
        elif many > 1:
            part = chance.randrange(1, many)
            rows += [(part, deeds), (many - part, deeds)]
        else:
            rows += [(1, (deed,)) for deed in deeds]
    return tuple(rows)


class Form(Asking):

    def test_plans(self):
        for thing in [(), LEAST, ((1, (DEED,)),), ((GREAT, (DEED,)),), ((3, (DEED, (1, 0, 2))), (1, (DEED,)))]:
            self.assert_tells(True, is_plan, HOUSE, thing)

    def test_many(self):
        for many, told in [(0, False), (1, True), (2, True), (GREAT, True), (GREAT + 1, False), (-1, False)]:
            self.assert_tells(told, is_plan, HOUSE, ((many, (DEED,)),))
            self.assert_tells(told, is_plan, HOUSE, ((1, (DEED,)), (many, (DEED,))))
        for thing in [10 ** 59, *odd_things()]:
            self.assert_tells(False, is_plan, HOUSE, ((thing, (DEED,)),))

    def test_rows(self):
        row = (1, (DEED,))
        self.assert_tells(True, is_plan, HOUSE, (row,) * 600)
        self.assert_tells(False, is_plan, HOUSE, (row,) * 601)
        self.assert_tells(False, is_plan, HOUSE, (row,) * 599 + ((1, ()),))

    def test_steps(self):
        self.assert_tells(False, is_plan, HOUSE, ((1, ()),))
        self.assert_tells(True, is_plan, HOUSE, ((1, (DEED,) * 20),))
        self.assert_tells(False, is_plan, HOUSE, ((1, (DEED,) * 21),))
        self.assert_tells(True, is_plan, HOUSE, ((GREAT, (DEED,) * 20),) * 600)
        self.assert_tells(False, is_plan, HOUSE, ((GREAT, (DEED,) * 20),) * 599 + ((1, (DEED,) * 21),))

    def test_deeds_of_the_house(self):
        for deed, told in [
            ((0, 0, 1), True), ((1, 2, 0), True), ((2, 0, 1), False), ((-1, 0, 1), False), ((0, 3, 1), False),
            ((0, 1, 3), False), ((0, -1, 1), False), ((0, 1, -1), False), ((0, 1, 1), False), ((0, 0, 0), False),
        ]:
            self.assert_tells(told, is_plan, HOUSE, ((1, (DEED, deed)),))
            self.assert_tells(told, is_plan, HOUSE, ((1, (DEED,)), (2, (DEED, deed, DEED))))
        self.assert_tells(False, is_plan, ((5,), 1), ((1, ((0, 0, 1),)),))

    def test_of_anything(self):
        two_rows = (*LEAST, (2, ((0, 1, 2),)))
        for thing in [0, 1, *odd_things(), *spoilt(LEAST), *spoilt(two_rows)]:
            self.assert_tells(is_form(HOUSE, thing), is_plan, HOUSE, thing)

    def test_true_is_no_one(self):
        for thing in [((True, (DEED,)),), ((1, ((False, 1, 2),)),), ((1, ((0, True, 2),)),), ((1, ((0, 2, True),)),)]:
            self.assert_tells(False, is_plan, HOUSE, thing)
            self.assert_tells(False, plan_holds, HOUSE, STAND, STAND, thing)

    def test_lists(self):
        for thing in [[], [(1, (DEED,))], ([1, (DEED,)],), ((1, [DEED]),), ((1, (list(DEED),)),)]:
            self.assert_tells(False, is_plan, HOUSE, thing)


class Holds(Asking):

    def test_the_told_plan(self):
        chance = random.Random(1)
        for _ in range(60):
            for most in (1, 3, GREAT):
                for house, stand, wish in (great_task(chance, most), shut_task(chance, most)):
                    told = plan(house, stand, wish)
                    self.assert_tells(True, plan_holds, house, stand, wish, told)
                    self.assert_tells(True, is_least, house, stand, wish, told)
                    self.assert_tells(fewest(house, stand, wish), length, told)

    def test_none(self):
        self.assert_tells(True, plan_holds, HOUSE, STAND, STAND, ())
        self.assert_tells(True, is_least, HOUSE, STAND, STAND, ())
        self.assert_tells(False, plan_holds, HOUSE, STAND, WISH, ())
        self.assert_tells(False, is_least, HOUSE, STAND, WISH, ())

    def test_a_plan_with_needless_deeds(self):
        there_and_back = (3, ((0, 0, 2), (0, 2, 0)))
        for told in [(there_and_back, *LEAST), (*LEAST, (2, ((0, 0, 2), (0, 2, 0))))]:
            self.assert_tells(True, plan_holds, HOUSE, STAND, WISH, told)
            self.assert_tells(False, is_least, HOUSE, STAND, WISH, told)
        self.assert_tells(True, plan_holds, HOUSE, STAND, STAND, (there_and_back,))
        self.assert_tells(False, is_least, HOUSE, STAND, STAND, (there_and_back,))

    def test_that_ends_elsewhere(self):
        self.assert_tells(False, plan_holds, HOUSE, STAND, WISH, ((1, LEAST[0][1][:2]),))
        self.assert_tells(False, plan_holds, HOUSE, STAND, STAND, LEAST)
        self.assert_tells(False, is_least, HOUSE, STAND, STAND, LEAST)

    def test_the_first_time_can_be_done_and_the_last_can_not(self):
        house = ((9, 4), 1)
        for many, told in [(1, True), (4, True), (5, False), (6, False), (GREAT, False)]:
            wish = ((6 - many,), (many,))
            self.assert_tells(told, plan_holds, house, ((6,), (0,)), wish, ((many, ((0, 0, 1),)),))
        # Things give out.
        house = ((9, 9), 1)
        for many in range(1, 9):
            wish = ((6 - many,), (many,))
            self.assert_tells(many <= 6, plan_holds, house, ((6,), (0,)), wish, ((many, ((0, 0, 1),)),))

    def test_within_a_row_things_and_places_give_out(self):
        # Each time one goes on from room 1, and two come there.
        house = ((20, 5, 20), 1)
        row = ((0, 0, 1), (0, 0, 1), (0, 1, 2))
        for many in range(1, 10):
            wish = ((20 - 2 * many,), (many,), (many,))
            self.assert_tells(many <= 4, plan_holds, house, ((20,), (0,), (0,)), wish, ((many, row),))
        # Each time two go from room 1, and one comes there behind them.
        row = ((0, 1, 2), (0, 1, 2), (0, 0, 1))
        for many in range(1, 10):
            wish = ((20 - many,), (5 - many,), (2 * many,))
            self.assert_tells(many <= 4, plan_holds, house, ((20,), (5,), (0,)), wish, ((many, row),))

    def test_the_last_time_can_be_done_and_the_first_can_not(self):
        # Room 1 is full at first, and empty ahead of all others: one goes out behind the one that comes.
        house = ((9, 2, 9), 1)
        row = ((0, 0, 1), (0, 1, 2), (0, 1, 2))
        self.assert_tells(False, plan_holds, house, ((2,), (2,), (0,)), ((0,), (0,), (4,)), ((2, row),))
        self.assert_tells(True, plan_holds, house, ((2,), (2,), (0,)), ((0,), (0,), (4,)), (
            (1, ((0, 1, 2),)), (2, ((0, 0, 1), (0, 1, 2))), (1, ((0, 1, 2),))))
        # Nothing is there at first, and more ahead of all others.
        row = ((0, 1, 2), (0, 0, 1), (0, 0, 1))
        self.assert_tells(False, plan_holds, ((9, 9, 9), 1), ((4,), (0,), (0,)), ((0,), (2,), (2,)), ((2, row),))
        self.assert_tells(True, plan_holds, ((9, 9, 9), 1), ((4,), (1,), (0,)), ((0,), (3,), (2,)), ((2, row),))

    def test_great_rows(self):
        house = ((GREAT, GREAT, 1), 2)
        stand = ((GREAT, 0), (0, GREAT), (0, 0))
        wish = (stand[1], stand[0], stand[2])
        first, last = (1, ((0, 0, 2),)), (1, ((1, 1, 0), (0, 2, 1)))
        ring = ((1, 1, 0), (0, 0, 1))
        self.assert_tells(True, plan_holds, house, stand, wish, (first, (GREAT - 1, ring), last))
        self.assert_tells(True, is_least, house, stand, wish, (first, (GREAT - 1, ring), last))
        for told in [
            (first, (GREAT, ring), last), (first, (GREAT - 2, ring), last), ((GREAT - 1, ring), last),
            (first, (GREAT - 1, ring[::-1]), last), (first, (GREAT - 1, ring)), (first, last, (GREAT - 1, ring)),
        ]:
            self.assert_tells(False, plan_holds, house, stand, wish, told)
            self.assert_tells(False, is_least, house, stand, wish, told)

    def test_held_against_its_deeds_done_one_by_one(self):
        chance = random.Random(2)
        held = 0
        for _ in range(4000):
            house = (tuple(chance.randrange(1, 7) for _ in range(chance.randrange(2, 4))), chance.randrange(1, 3))
            stand, wish = grown(chance, house, chance.randrange(1, sum(house[0]) + 1), 2)
            told = any_plan(chance, house, 3)
            behind = stand_by_deeds(house, stand, deeds_of(told))
            held += behind is not None and told != ()
            for end in [wish, stand] + ([behind] if behind is not None else []):
                self.assertIs(behind == end, plan_holds(house, stand, end, told), (house, stand, end, told))
                if behind == end:
                    least = len(deeds_of(told)) == fewest(house, stand, end)
                    self.assertIs(least, is_least(house, stand, end, told))
                else:
                    self.assertIs(False, is_least(house, stand, end, told))
        self.assertGreater(held, 200)

    def test_of_anything(self):
        for thing in [0, 1, *odd_things(), *spoilt(LEAST)]:
            holds = is_form(HOUSE, thing) and played(HOUSE, STAND, thing) == WISH
            self.assert_tells(holds, plan_holds, HOUSE, STAND, WISH, thing)
            self.assert_tells(holds, is_least, HOUSE, STAND, WISH, thing)

    def test_neither_is_refused(self):
        for thing in [(), LEAST, None, 7, *odd_things()]:
            for judge in (plan_holds, is_least):
                self.assert_tells(False, judge, HOUSE, STAND, ((2, 0), (0, 2), (0, 0)), thing)
                self.assert_tells(False, judge, ((1, 1), 2), ((1, 0), (0, 1)), ((0, 1), (1, 0)), thing)
                self.assert_tells(False, judge, ((1, 1), 2), ((1, 0), (0, 1)), ((0, 1), (0, 1)), thing)
        full = ((1, 0), (0, 1))
        self.assert_tells(True, is_least, ((1, 1), 2), full, full, ())

    def test_all_rows_that_there_may_be(self):
        row = (1, ((0, 0, 2), (0, 2, 0)) * 10)
        self.assert_tells(True, plan_holds, HOUSE, STAND, STAND, (row,) * 600)
        self.assert_tells(False, plan_holds, HOUSE, STAND, STAND, (row,) * 601)
        self.assert_tells(True, plan_holds, HOUSE, STAND, STAND, ((GREAT, row[1]),) * 600)
        self.assert_tells(600 * 20 * GREAT, length, ((GREAT, row[1]),) * 600)

    def test_no_plan_has_fewer_deeds(self):
        for house in [((2, 1), 2), ((1, 1, 1), 2)]:
            rooms = range(len(house[0]))
            deeds = [one for one in itertools.product(range(house[1]), rooms, rooms) if one[1] != one[2]]
            for stand, wish in like_pairs(house):
                beats = beats_from(house, stand)
                for row in itertools.chain.from_iterable(itertools.product(deeds, repeat=many) for many in (1, 2)):
                    told = ((1, row),)
                    holds = stand_by_deeds(house, stand, row) == wish
                    self.assertIs(holds, plan_holds(house, stand, wish, told))
                    self.assertIs(holds and beats[wish] == len(row), is_least(house, stand, wish, told))


class Length(Asking):

    def test_length(self):
        self.assert_tells(0, length, ())
        self.assert_tells(3, length, LEAST)
        self.assert_tells(13, length, (*LEAST, (5, (DEED, DEED))))
        self.assert_tells(GREAT, length, ((GREAT, (DEED,)),))
        self.assert_tells(41 * GREAT + 1, length, ((GREAT, (DEED,) * 20), (1, (DEED,)), (GREAT, (DEED,) * 20), (
            GREAT, (DEED,))))


class Far(Asking):

    def look_over(self, house, stand, told):
        """Hold after, deed_at and worked against the deeds done one by one."""
        counts = [[0, 0] for _ in house[0]]
        now = stand
        deeds = deeds_of(told)
        for number, deed in enumerate(deeds):
            self.assert_tells(now, after, house, stand, told, number)
            self.assert_tells(deed, deed_at, told, number)
            now = done(house, now, deed)
            counts[deed[1]][0] += 1
            counts[deed[2]][1] += 1
        self.assert_tells(now, after, house, stand, told, len(deeds))
        self.assert_refuses_number(house, stand, told, len(deeds))
        self.assert_tells(tuple(map(tuple, counts)), worked, house, told)

    def assert_refuses_number(self, house, stand, told, deeds):
        """Look at what is beyond a plan of so many deeds."""
        beyond = deeds + 1
        self.assert_refuses(NoNumber, "number", beyond, after, house, stand, told, beyond)
        self.assert_refuses(NoNumber, "number", deeds, deed_at, told, deeds)
        self.assert_refuses(NoNumber, "number", beyond, deed_at, told, beyond)

    def test_each_number_of_a_small_plan(self):
        chance = random.Random(3)
        for _ in range(60):
            for house, stand, wish in (great_task(chance, 4), shut_task(chance, 4)):
                told = plan(house, stand, wish)
                self.look_over(house, stand, told)
                self.look_over(house, stand, told_otherwise(chance, told))

    def test_each_number_of_any_plan_that_can_be_done(self):
        chance = random.Random(4)
        seen = 0
        while seen < 150:
            house = ((6, 5, 7), 2)
            stand = grown(chance, house, 9, 1)[0]
            told = any_plan(chance, house, 6, 6)
            if stand_by_deeds(house, stand, deeds_of(told)) is not None and told:
                self.look_over(house, stand, told)
                self.look_over(house, stand, told_otherwise(chance, told))
                seen += 1

    def test_a_row_of_twenty_deeds(self):
        self.look_over(HOUSE, STAND, ((3, ((0, 0, 2), (0, 2, 0)) * 10), *LEAST))

    def test_none(self):
        self.assert_tells(STAND, after, HOUSE, STAND, (), 0)
        self.assert_refuses_number(HOUSE, STAND, (), 0)
        self.assert_tells(((0, 0), (0, 0), (0, 0)), worked, HOUSE, ())

    def test_great_lengths(self):
        row = ((0, 0, 2), (0, 2, 0)) * 10
        told = ((GREAT, row),) * 600
        whole = 12000 * GREAT
        behind = ((1, 0), (0, 2), (2, 0))
        for number in [0, 2, 20, GREAT, 7 * GREAT + 4, whole - 2, whole]:
            self.assert_tells(STAND, after, HOUSE, STAND, told, number)
        for number in [0, 2, 20, GREAT, 7 * GREAT + 4, whole - 2]:
            self.assert_tells(behind, after, HOUSE, STAND, told, number + 1)
            self.assert_tells((0, 0, 2), deed_at, told, number)
            self.assert_tells((0, 2, 0), deed_at, told, number + 1)
        self.assert_refuses_number(HOUSE, STAND, told, whole)
        self.assert_tells(((6000 * GREAT,) * 2, (0, 0), (6000 * GREAT,) * 2), worked, HOUSE, told)

    def test_far_along_great_plans(self):
        chance = random.Random(5)
        for _ in range(40):
            for house, stand, wish in (great_task(chance), shut_task(chance)):
                told = plan(house, stand, wish)
                deeds = length(told)
                self.assert_tells(stand, after, house, stand, told, 0)
                self.assert_tells(wish, after, house, stand, told, deeds)
                other = told_otherwise(chance, told)
                for number in [chance.randrange(deeds) for _ in range(6 if deeds else 0)]:
                    there = self.ask(after, house, stand, told, number)
                    deed = self.ask(deed_at, told, number)
                    self.assertEqual(moved(house, there, deed), after(house, stand, told, number + 1))
                    self.assertEqual(deeds - number, fewest(house, there, wish))
                    self.assert_tells(there, after, house, stand, other, number)
                    self.assert_tells(deed, deed_at, other, number)
                self.assertEqual(worked(house, told), worked(house, other))
                self.assertEqual(deeds, sum(taken for taken, brought in worked(house, told)))

    def test_no_number(self):
        for thing in [-1, 4, GREAT, 10 ** 59, -(10 ** 59), *odd_things()]:
            self.assert_refuses(NoNumber, "number", thing, after, HOUSE, STAND, LEAST, thing)
        for thing in [-1, 3, GREAT, 10 ** 59, -(10 ** 59), *odd_things()]:
            self.assert_refuses(NoNumber, "number", thing, deed_at, LEAST, thing)
            self.assert_refuses(NoNumber, "number", thing, deed_at, (), thing)

    def test_worked(self):
        self.assert_tells(((1, 1), (1, 1), (1, 1)), worked, HOUSE, LEAST)
        told = ((5, ((0, 0, 2), (1, 0, 1))), (GREAT, ((0, 2, 0),)))
        self.assert_tells(((10, GREAT), (0, 5), (GREAT, 5), (0, 0)), worked, ((9, 9, 9, 9), 2), told)


if __name__ == "__main__":
    unittest.main()
