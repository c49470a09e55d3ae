"""The promise [3] over the whole program, where its points come together."""

import random
import unittest

from asking import GREAT, Asking, great_task, grown, played, shut_task
from fullrooms.arcs import is_closed, matching_holds, parts
from fullrooms.changes import one_kind, one_room, places_for, saved, without
from fullrooms.desks import Desk
from fullrooms.errors import NoPlace, RoomError
from fullrooms.fewest import fewest
from fullrooms.hanging import hung
from fullrooms.houses import is_stand, moved, places, things
from fullrooms.leading import costs, first_towards, is_between, leads
from fullrooms.papers import bar_holds, none_fewer, none_fewer_holds
from fullrooms.pieces import pieces, shut_pieces, too_many
from fullrooms.plans import after, deed_at, is_least, is_plan, length, plan_holds, worked
from fullrooms.stores import Store
from fullrooms.texts import house_text, plan_text, read_house, read_plan, read_stand, stand_text
from fullrooms.trails import plan
from fullrooms.verdicts import verdict, verdict_holds


def tasks(seed, many):
    """Tasks of all sizes, as a seeded chance tells."""
    chance = random.Random(seed)
    for _ in range(many):
        for most in (1, 3, 50, GREAT):
            yield great_task(chance, most)
            yield shut_task(chance, most)


def small_task(chance, rooms, kinds):
    """A house of just so many rooms and kinds at most, and a stand and a wish of it, with one place at least."""
    house = (tuple(chance.randrange(1, 4) for _ in range(rooms)), kinds)
    return (house, *grown(chance, house, sum(house[0]) - chance.choice([1, 1, 2]), 2))


def beside(one, other):
    """Two tasks side by side: the other's rooms and kinds come behind the one's."""
    (sizes, kinds), *stands = one
    (more_sizes, more_kinds), *more_stands = other
    house = (sizes + more_sizes, kinds + more_kinds)
    whole = [
        tuple(row + (0,) * more_kinds for row in stand) + tuple((0,) * kinds + row for row in more)
        for stand, more in zip(stands, more_stands)
    ]
    return (house, *whole)


def behind_rooms(told, rooms, kinds):
    """A plan whose rooms and kinds are numbered so many on."""
    return tuple(
        (many, tuple((kind + kinds, here + rooms, there + rooms) for kind, here, there in deeds))
        for many, deeds in told
    )


def times(task, many):
    """A house, a stand and a wish so many times as great."""
    (sizes, kinds), *stands = task
    house = (tuple(size * many for size in sizes), kinds)
    return (house, *[tuple(tuple(one * many for one in row) for row in stand) for stand in stands])


class SideBySide(Asking):

    def test_two_houses(self):
        chance = random.Random(1)
        for _ in range(150):
            one = small_task(chance, chance.randrange(1, 5), chance.randrange(1, 4))
            other = small_task(chance, chance.randrange(1, 5), chance.randrange(1, 4))
            whole = beside(one, other)
            rooms, kinds = len(one[0][0]), one[0][1]
            self.assertEqual(fewest(*one) + fewest(*other), fewest(*whole))
            self.assertEqual(len(pieces(*one[1:])) + len(pieces(*other[1:])), len(pieces(*whole[1:])))
            told = plan(*one) + behind_rooms(plan(*other), rooms, kinds)
            self.assertTrue(is_least(*whole, told))
            self.assertTrue(is_least(*whole, behind_rooms(plan(*other), rooms, kinds) + plan(*one)))
            for deed in leads(*one):
                self.assertIn(deed, leads(*whole))

    def test_the_ones_places_open_the_others_way(self):
        stand, wish = ((1, 0), (0, 1)), ((0, 1), (1, 0))
        shut = (((1, 1), 2), stand, wish)
        self.assertRaises(NoPlace, fewest, *shut)
        whole = beside(shut, (((1,), 1), ((0,),), ((0,),)))
        self.assertEqual(3, fewest(*whole))
        self.assertTrue(is_least(*whole, plan(*whole)))


class SoManyTimes(Asking):

    def test_as_great(self):
        chance = random.Random(2)
        for _ in range(80):
            for task in (small_task(chance, chance.randrange(2, 9), chance.randrange(1, 7)), shut_task(chance, 3)):
                for many in (2, 7, 10 ** 11):
                    great = times(task, many)
                    self.assertEqual(many * too_many(*task[1:]), too_many(*great[1:]))
                    self.assertEqual(pieces(*task[1:]), pieces(*great[1:]))
                    self.assertEqual(shut_pieces(*task), shut_pieces(*great))
                    self.assertEqual(many * too_many(*task[1:]) + len(shut_pieces(*task)), fewest(*great))
                    told = plan(*great)
                    self.assertTrue(is_least(*great, told))
                    self.assertEqual(fewest(*great), length(told))


class Beside(Asking):

    def test_things_that_stand_right(self):
        chance = random.Random(3)
        for house, stand, wish in tasks(4, 10):
            more = [[chance.randrange(3) for _ in range(house[1])] for _ in house[0]]
            wider = (tuple(size + sum(row) for size, row in zip(house[0], more)), house[1])
            told = [
                tuple(tuple(a + b for a, b in zip(*rows)) for rows in zip(one, more)) for one in (stand, wish)
            ]
            self.assertEqual(places(house, stand), places(wider, told[0]))
            self.assertEqual(fewest(house, stand, wish), fewest(wider, *told))
            self.assertEqual(none_fewer(house, stand, wish), none_fewer(wider, *told))
            self.assertEqual(hung(house, stand, wish), hung(wider, *told))
            self.assertTrue(is_least(wider, *told, plan(house, stand, wish)))
            for deed in leads(house, stand, wish):
                self.assertIn(deed, leads(wider, *told))


class Rings(Asking):

    def test_rings_of_rooms(self):
        for rooms in range(2, 7):
            for many in (1, 2, GREAT):
                rows = tuple(tuple(many if kind == room else 0 for kind in range(rooms)) for room in range(rooms))
                empty = ((0,) * rooms,)
                for more in (0, 1):
                    sizes = (many,) * rooms + (1,)
                    if more and many < GREAT:
                        sizes = (many + 1,) + sizes[1:]
                    house, stand, wish = (sizes, rooms), rows + empty, (*rows[1:], rows[0], *empty)
                    shut = sizes[0] == many
                    self.assertEqual(rooms * many + shut, fewest(house, stand, wish))
                    told = plan(house, stand, wish)
                    self.assertTrue(is_least(house, stand, wish, told))
                    # Each room gives and takes all that it has, and one room aside one thing, where all others are full.
                    counts = worked(house, told)
                    self.assertEqual(((many, many),) * rooms + ((int(shut), int(shut)),), counts)
                    self.assertEqual(is_least(house, wish, stand, told), stand == wish)


class OneBehindAnother(Asking):

    def test_plans_one_behind_another(self):
        chance = random.Random(5)
        for most in (1, 3, GREAT):
            for _ in range(60):
                house, one, other, third = great_task(chance, most, 3)
                told = plan(house, one, third) + plan(house, third, other)
                self.assertTrue(plan_holds(house, one, other, told))
                self.assertGreaterEqual(length(told), fewest(house, one, other))
                self.assertIs(is_between(house, one, other, third), is_least(house, one, other, told))
                self.assertEqual(third, after(house, one, told, fewest(house, one, third)))

    def test_there_and_back(self):
        for house, stand, wish in tasks(6, 10):
            told = plan(house, stand, wish)
            back = tuple(
                (many, tuple((kind, there, here) for kind, here, there in deeds[::-1])) for many, deeds in told[::-1]
            )
            self.assertTrue(is_least(house, wish, stand, back))
            self.assertEqual(fewest(house, stand, wish), fewest(house, wish, stand))
            self.assertTrue(plan_holds(house, stand, stand, told + back))


class Far(Asking):

    def test_each_stand_along_a_plan_of_fewest_deeds(self):
        chance = random.Random(7)
        for house, stand, wish in tasks(8, 8):
            told = plan(house, stand, wish)
            self.assertTrue(is_plan(house, told))
            for number in [chance.randrange(length(told)) for _ in range(4 if told else 0)]:
                there = after(house, stand, told, number)
                deed = deed_at(told, number)
                self.assertTrue(is_stand(house, there))
                self.assertEqual(things(stand), things(there))
                self.assertTrue(is_between(house, stand, wish, there))
                self.assertIn(deed, leads(house, there, wish))
                self.assertEqual(-1, costs(house, there, wish, deed))
                self.assertEqual(moved(house, there, deed), after(house, stand, told, number + 1))
                self.assertEqual(number, fewest(house, stand, there))
                self.assertTrue(is_between(house, there, wish, first_towards(house, there, wish)))
                paper = none_fewer(house, there, wish)
                self.assertEqual(length(told) - number, paper[0])
                self.assertTrue(none_fewer_holds(house, there, wish, paper))

    def test_what_goes_in_and_out_is_what_is_amiss(self):
        for house, stand, wish in tasks(9, 10):
            for room, (taken, brought) in enumerate(worked(house, plan(house, stand, wish))):
                self.assertEqual(sum(stand[room]) - sum(wish[room]), taken - brought)


class Together(Asking):

    def test_papers_plans_matchings_and_places(self):
        for house, stand, wish in tasks(10, 10):
            shut = shut_pieces(house, stand, wish)
            arcs = hung(house, stand, wish)
            self.assertTrue(matching_holds(stand, wish, arcs))
            closed = [rooms for rooms in parts(arcs) if is_closed(house, stand, rooms)]
            self.assertEqual([rooms for rooms, kinds in shut], closed)
            word, told = verdict(house, stand, wish)
            self.assertEqual("plan", word)
            self.assertEqual(none_fewer(house, stand, wish)[0], length(told))
            self.assertTrue(verdict_holds(house, stand, wish, (word, told)))
            self.assertFalse(bar_holds(house, stand, wish, ("full",)))
            firsts = places_for(house, stand, wish, too_many(stand, wish))
            self.assertEqual(tuple(rooms[0] for rooms in closed), firsts)
            for room in firsts:
                self.assertEqual(1, saved(house, stand, wish, room, 1))

    def test_made_one_a_plan_leads_there_still(self):
        for house, stand, wish in tasks(11, 6):
            told = plan(house, stand, wish)
            if house[1] > 1:
                less, here = one_kind(house, stand, 0, 1)
                there = one_kind(house, wish, 0, 1)[1]
                alike = tuple(
                    (many, tuple((max(0, kind - 1), *ends) for kind, *ends in deeds)) for many, deeds in told
                )
                self.assertTrue(plan_holds(less, here, there, alike))
            if sum(house[0][:2]) <= GREAT:
                less, here = one_room(house, stand, 0, 1)
                there = one_room(house, wish, 0, 1)[1]
                self.assertLessEqual(fewest(less, here, there), length(told))
                self.assertTrue(is_least(less, here, there, plan(less, here, there)))

    def test_texts_of_what_is_told(self):
        for house, stand, wish in tasks(12, 6):
            self.assertEqual(house, read_house(house_text(house)))
            self.assertEqual(wish, read_stand(house, stand_text(wish)))
            told = plan(house, stand, wish)
            self.assertTrue(is_least(house, stand, wish, read_plan(house, plan_text(told))))


class Stores(Asking):

    def test_a_plan_of_a_store_with_locked_rooms(self):
        chance = random.Random(13)
        for house, stand, wish in tasks(14, 8):
            right = [room for room in range(len(stand)) if stand[room] == wish[room]]
            locked = tuple(room for room in right if chance.randrange(2))
            store = Store(house, stand)
            store.wish("w", wish)
            for room in locked:
                store.lock(room)
            if len(locked) == len(stand):
                self.assertEqual((0, ()), (store.fewest("w"), store.plan("w")))
                continue
            task = without(house, stand, wish, locked)
            try:
                told = store.plan("w")
            except NoPlace:
                self.assertRaises(NoPlace, fewest, *task)
                continue
            self.assertEqual(fewest(*task), store.fewest("w"))
            self.assertTrue(plan_holds(house, stand, wish, told))
            self.assertEqual(store.fewest("w"), length(told))
            self.assertEqual(len(leads(*task)), len(store.leads("w")))
            for room in locked:
                self.assertEqual((0, 0), worked(house, told)[room])

    def test_rows_of_a_plan_tried_in_a_store(self):
        chance = random.Random(15)
        for _ in range(60):
            house, stand, wish = shut_task(chance, 4)
            store = Store(house, stand, most=10 ** 6)
            store.wish("w", wish)
            for many, deeds in store.plan("w"):
                for _ in range(many):
                    store.tried([("carry", *deed, 1) for deed in deeds])
            self.assertEqual((wish, 0), (store.stand(), store.fewest("w")))
            whole = len(store) - 1
            for at in range(1, whole + 2):
                self.assertEqual(whole + 1 - at, store.fewest("w", at=at))

    def test_what_it_is_asked_hangs_on_what_it_has_alone(self):
        chance = random.Random(16)
        for _ in range(40):
            house, stand, wish = shut_task(chance, 3)
            store = Store(house, stand)
            desk = Desk(store)
            desk.say("wish w " + stand_text(wish))
            for _ in range(15):
                word = chance.choice(["carry", "bring", "take", "widen", "narrow", "lock", "unlock", "back"])
                numbers = {"carry": 4, "lock": 1, "unlock": 1, "widen": 2, "narrow": 2, "back": 0}.get(word, 3)
                desk.say(" ".join([word] + [str(chance.randrange(4)) for _ in range(numbers)]))
            fresh = Store(store.house(), store.stand())
            for room in store.locked():
                fresh.lock(room)
            if "w" not in store.wishes():
                continue
            if is_stand(store.house(), wish):
                fresh.wish("w", wish)
                self.assertEqual(fresh, store)
            other = Desk(fresh)
            for row in ("stand", "house") + (("fewest w", "leads w") if fresh.wishes() else ()):
                self.assertEqual(other.say(row), desk.say(row))
            try:
                self.assertEqual(wish, played(store.house(), store.stand(), store.plan("w")))
                self.assertEqual(int(desk.say("fewest w")), length(store.plan("w")))
            except RoomError as refusal:
                self.assertEqual("no " + type(refusal).__name__, desk.say("fewest w"))
                self.assertEqual("no " + type(refusal).__name__, desk.say("leads w"))


if __name__ == "__main__":
    unittest.main()
