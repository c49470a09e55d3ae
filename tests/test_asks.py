"""Stores: what they are asked [30], deeds tried together, the log, equality, length, text and twins [31]."""

import random
import unittest

from asking import GREAT, SMALL, Asking, done, great_task, grown, like_pairs, odd_things, played, shut_task
from fullrooms.errors import (
    BadStand, Broken, NoDeeds, NoMoment, NoName, NoPlace, Needed, RoomError, TooMany, Unlike
)
from fullrooms.fewest import fewest
from fullrooms.leading import leads
from fullrooms.stores import Store
from model import TAKES, Model, class_of, field_of, locked_beats, refusal_of_way
from test_stores import HOUSE, STAND, WISH, Storing, told_by

WAYS = ("fewest", "plan", "leads")


def led():
    """A store behind some deeds, and what it tells at each moment."""
    store = Store(HOUSE, STAND)
    told = [told_by(store)]
    for word, *handed in [
        ("wish", "a", WISH), ("carry", 0, 0, 2, 1), ("lock", 1), ("bring", 1, 3, 1), ("wish", "b", STAND),
        ("widen", 3, 4), ("drop", "a"), ("unlock", 1),
    ]:
        getattr(store, word)(*handed)
        told.append(told_by(store))
    return store, told


class Looking(Storing):

    def ask_store(self, store, word, *handed, **named):
        """What is told, twice alike, with nothing changed."""
        ahead = repr((handed, named, told_by(store), store.log(), len(store)))
        told = getattr(store, word)(*handed, **named)
        self.assertEqual(repr(told), repr(getattr(store, word)(*handed, **named)))
        self.assertEqual(ahead, repr((handed, named, told_by(store), store.log(), len(store))))
        self.assert_plain(told)
        return told

    def refuse_ask(self, error, worth, store, word, *handed, **named):
        """A question that is refused, which neither the store nor its log tells of."""
        ahead = repr((handed, named, told_by(store), store.log(), len(store)))
        for _ in range(2):
            with self.assertRaises(RoomError) as caught:
                getattr(store, word)(*handed, **named)
            self.assertIs(error, type(caught.exception), (word, repr(handed)[:200]))
            self.assertIs(worth, field_of(caught.exception))
        self.assertEqual(ahead, repr((handed, named, told_by(store), store.log(), len(store))))


class Moments(Looking):

    def test_at_each_moment(self):
        store, told = led()
        for at, (house, stand, locked, wishes) in enumerate(told):
            self.assertEqual(house, self.ask_store(store, "house", at=at))
            self.assertEqual(stand, self.ask_store(store, "stand", at=at))
            self.assertEqual(locked, self.ask_store(store, "locked", at=at))
            self.assertEqual(tuple(name for name, wish in wishes), self.ask_store(store, "wishes", at=at))
            for name, wish in wishes:
                self.assertEqual(wish, self.ask_store(store, "wished", name, at=at))
            for name in ("a", "b"):
                if name not in dict(wishes):
                    self.refuse_ask(NoName, name, store, "wished", name, at=at)

    def test_now(self):
        store, told = led()
        for word, part in [("house", 0), ("stand", 1), ("locked", 2)]:
            self.assertEqual(told[-1][part], self.ask_store(store, word))
            self.assertEqual(told[-1][part], self.ask_store(store, word, at=None))
            self.assertEqual(told[-1][part], self.ask_store(store, word, at=8))
        self.assertEqual(("b",), self.ask_store(store, "wishes"))

    def test_moments_go_with_what_is_taken_back(self):
        store, told = led()
        store.back()
        self.refuse_ask(NoMoment, 8, store, "house", at=8)
        self.assertEqual(told[7][2], store.locked(at=7))
        store.lock(0)
        self.assertEqual((0, 1), store.locked(at=8))

    def test_no_moment_ahead_of_all(self):
        store, told = led()
        for thing in [-1, 9, GREAT, 10 ** 59, *[thing for thing in odd_things() if thing is not None]]:
            for word in ("house", "stand", "locked", "wishes"):
                self.refuse_ask(NoMoment, thing, store, word, at=thing)
            for word in ("wished", *WAYS):
                self.refuse_ask(NoMoment, thing, store, word, "b", at=thing)
                self.refuse_ask(NoMoment, thing, store, word, [None], at=thing)

    def test_a_moment_is_handed_in_by_its_name_alone(self):
        store, told = led()
        for word in ("house", "stand", "locked", "wishes"):
            self.assertRaises(TypeError, getattr(store, word), 0)
        for word in ("wished", *WAYS):
            self.assertRaises(TypeError, getattr(store, word), "b", 0)

    def test_ways_at_moments(self):
        store = Store(((2, 2, 3), 2), ((2, 0), (0, 2), (1, 0)))
        store.wish("a", ((1, 1), (1, 1), (1, 0)))
        for kind, here, there in [(0, 0, 2), (1, 1, 0), (0, 2, 1)]:
            store.carry(kind, here, there, 1)
        self.assertEqual([3, 2, 1, 0], [self.ask_store(store, "fewest", "a", at=at) for at in (1, 2, 3, 4)])
        self.assertEqual(0, store.fewest("a"))
        self.assertEqual(((0, 0, 2), (1, 1, 2)), self.ask_store(store, "leads", "a", at=1))
        self.assertEqual(((1, 1, 0),), self.ask_store(store, "leads", "a", at=2))
        self.assertEqual((), self.ask_store(store, "leads", "a"))
        self.assertEqual(((1, ((0, 2, 1),)),), self.ask_store(store, "plan", "a", at=3))
        self.assertEqual((), self.ask_store(store, "plan", "a"))
        for word in WAYS:
            self.refuse_ask(NoName, "a", store, word, "a", at=0)


class Ways(Looking):

    def look_over(self, store, name):
        """Hold fewest, plan and leads against the words of [30]; tell whether they are refused."""
        told = told_by(store)
        (sizes, kinds), stand, locked, wishes = told
        refusal = refusal_of_way(told, name)
        if refusal is not None:
            for word in WAYS:
                self.refuse_ask(class_of(refusal[0]), refusal[1], store, word, name)
            return True
        wish = dict(wishes)[name]
        beats = locked_beats(told, wish)
        self.assertEqual(beats[stand], self.ask_store(store, "fewest", name))
        plan = self.ask_store(store, "plan", name)
        self.assertEqual(wish, played((sizes, kinds), stand, plan))
        self.assertEqual(beats[stand], sum(many * len(deeds) for many, deeds in plan))
        for many, deeds in plan:
            for deed in deeds:
                self.assertFalse(set(deed[1:]) & set(locked))
        on = [
            (kind, here, there)
            for kind in range(kinds) for here in range(len(sizes)) for there in range(len(sizes))
            if here != there and here not in locked and there not in locked
        ]
        behind = [(deed, done((sizes, kinds), stand, deed)) for deed in on]
        far = tuple(deed for deed, one in behind if one is not None and beats[one] < beats[stand])
        self.assertEqual(far, self.ask_store(store, "leads", name))
        return False

    def test_small_houses_with_each_room_locked(self):
        chance = random.Random(1)
        for house in SMALL:
            for stand, wish in chance.choices(like_pairs(house), k=40):
                for locked in [(), *[(room,) for room in range(len(house[0]))], (0, len(house[0]) - 1)]:
                    store = Store(house, stand)
                    store.wish("w", wish)
                    for room in locked:
                        store.lock(room)
                    self.look_over(store, "w")

    def test_as_without_locks(self):
        chance = random.Random(2)
        for _ in range(40):
            for house, stand, wish in (great_task(chance), shut_task(chance)):
                store = Store(house, stand)
                store.wish("w", wish)
                self.assertEqual(fewest(house, stand, wish), self.ask_store(store, "fewest", "w"))
                self.assertEqual(leads(house, stand, wish), self.ask_store(store, "leads", "w"))
                self.assertEqual(wish, played(house, stand, self.ask_store(store, "plan", "w")))

    def test_a_locked_room_between_keeps_its_number(self):
        store = Store(((1, 1, 1, 1), 2), ((1, 0), (0, 1), (0, 1), (0, 0)))
        store.wish("w", ((0, 1), (0, 1), (1, 0), (0, 0)))
        store.lock(1)
        self.assertEqual(3, store.fewest("w"))
        self.assertEqual(((0, 0, 3), (1, 2, 3)), store.leads("w"))
        self.assertFalse([deed for many, deeds in store.plan("w") for deed in deeds if 1 in deed[1:]])
        self.look_over(store, "w")

    def test_places_of_locked_rooms_are_none(self):
        store = Store(((1, 1, 1), 2), ((1, 0), (0, 1), (0, 0)))
        store.wish("w", ((0, 1), (1, 0), (0, 0)))
        self.assertEqual(3, store.fewest("w"))
        store.lock(2)
        for word in WAYS:
            self.refuse_ask(NoPlace, None, store, word, "w")
        store.unlock(2)
        self.assertEqual(3, store.fewest("w"))

    def test_all_locked(self):
        store = Store(((2, 1), 2), ((1, 0), (0, 1)))
        store.wish("same", ((1, 0), (0, 1)))
        store.wish("other", ((0, 1), (1, 0)))
        store.lock(0)
        store.lock(1)
        self.assertEqual((0, (), ()), tuple(self.ask_store(store, word, "same") for word in WAYS))
        for word in WAYS:
            self.refuse_ask(Needed, 0, store, word, "other")

    def test_one_room(self):
        store = Store(((2,), 1), ((1,),))
        store.wish("same", ((1,),))
        self.assertEqual((0, (), ()), tuple(self.ask_store(store, word, "same") for word in WAYS))

    def test_the_first_locked_room_where_something_is_amiss(self):
        store = Store(((2, 2, 2, 2), 1), ((1,), (1,), (1,), (1,)))
        store.wish("w", ((1,), (2,), (1,), (0,)))
        store.lock(3)
        store.lock(0)
        for word in WAYS:
            self.refuse_ask(Needed, 3, store, word, "w")
        store.lock(1)
        for word in WAYS:
            self.refuse_ask(Needed, 1, store, word, "w")

    def test_no_name(self):
        store = Store(HOUSE, STAND)
        store.wish("known", STAND)
        for thing in ["know", "a", "known ", 0, 1, ("known",), ["known"], *odd_things()]:
            for word in ("wished", *WAYS):
                self.refuse_ask(NoName, thing, store, word, thing)

    def test_in_order(self):
        # Too wide a wish of other things, in a locked room, where nothing has a place.
        store = Store(((2, 2), 2), ((1, 0), (0, 1)))
        store.wish("w", ((0, 2), (1, 0)))
        store.narrow(0, 1)
        store.narrow(1, 1)
        store.lock(0)
        for word in WAYS:
            self.refuse_ask(NoName, "v", store, word, "v")
            self.refuse_ask(BadStand, None, store, word, "w")
        self.assertEqual(((0, 2), (1, 0)), self.ask_store(store, "wished", "w"))
        self.assertEqual(("w",), store.wishes())
        store.unlock(0)
        store.widen(0, 1)
        store.lock(0)
        for word in WAYS:
            self.refuse_ask(Unlike, 1, store, word, "w")
        store.wish("w", ((0, 1), (1, 0)))
        for word in WAYS:
            self.refuse_ask(Needed, 0, store, word, "w")
        store.unlock(0)
        store.narrow(0, 1)
        for word in WAYS:
            self.refuse_ask(NoPlace, None, store, word, "w")

    def test_unlike_by_all_rooms(self):
        store = Store(((3, 3), 2), ((1, 1), (1, 1)))
        store.wish("w", ((1, 1), (1, 0)))
        store.lock(1)
        for word in WAYS:
            self.refuse_ask(Unlike, 1, store, word, "w")

    def test_a_wish_that_fits_again(self):
        store = Store(((3, 3), 1), ((1,), (1,)))
        store.wish("w", ((2,), (0,)))
        store.narrow(0, 2)
        for word in WAYS:
            self.refuse_ask(BadStand, None, store, word, "w")
            self.ask_store(store, word, "w", at=1)
        self.assertEqual(1, store.fewest("w", at=1))
        store.widen(0, 1)
        self.assertEqual(1, store.fewest("w"))

    def test_whatever_went_ahead(self):
        chance = random.Random(3)
        for _ in range(60):
            house = (tuple(chance.randrange(1, 4) for _ in range(chance.randrange(2, 5))), chance.randrange(1, 4))
            stand, wish, other = grown(chance, house, sum(house[0]) - 1, 3)
            store = Store(house, stand)
            store.wish("w", wish)
            store.lock(0)
            refused = self.look_over(store, "w")
            if not refused:
                for many, deeds in store.plan("w"):
                    for deed in deeds * many:
                        store.carry(*deed, 1)
                self.assertEqual(wish, store.stand())
            fresh = Store(store.house(), store.stand())
            fresh.lock(0)
            fresh.wish("w", wish)
            fresh.wish("other", other)
            store.wish("other", other)
            for name in ("w", "other"):
                self.assertEqual(self.look_over(fresh, name), self.look_over(store, name))

    def test_led_on_by_whatever_leads(self):
        chance = random.Random(4)
        for _ in range(30):
            house, stand, wish = shut_task(chance, 3)
            store = Store(house, stand)
            store.wish("w", wish)
            for left in range(store.fewest("w"), 0, -1):
                self.assertEqual(left, store.fewest("w"))
                store.carry(*chance.choice(store.leads("w")), 1)
            self.assertEqual((wish, ()), (store.stand(), store.leads("w")))


class Tried(Looking):

    def test_all_are_done_and_each_stands_by_itself(self):
        for kind in (list, tuple):
            store = Store(HOUSE, STAND)
            deeds = kind([("lock", 1), ("wish", "a", WISH), ("carry", 0, 0, 2, 1), ("widen", 3, 2)])
            ahead = repr(deeds)
            self.assertIsNone(store.tried(deeds))
            self.assertEqual(ahead, repr(deeds))
            self.assertEqual(4, len(store))
            self.assertEqual((("lock", "done"), ("wish", "done"), ("carry", "done"), ("widen", "done")), store.log())
            one = Store(HOUSE, STAND)
            for word, *handed in deeds:
                getattr(one, word)(*handed)
            self.assertEqual(one, store)
            for at in range(5):
                self.assertEqual(one.house(at=at), store.house(at=at))
                self.assertEqual(one.stand(at=at), store.stand(at=at))
                self.assertEqual(one.locked(at=at), store.locked(at=at))
                self.assertEqual(one.wishes(at=at), store.wishes(at=at))
            store.back()
            self.assertEqual((HOUSE, 3), (store.house(), len(store)))

    def test_each_word(self):
        store = Store(HOUSE, STAND)
        store.tried([
            ("carry", 0, 0, 2, 1), ("bring", 1, 3, 1), ("take", 1, 0, 1), ("widen", 0, 5), ("narrow", 0, 1),
            ("lock", 2), ("unlock", 2), ("wish", "a", WISH), ("drop", "a"),
        ])
        self.assertEqual(9, len(store))
        self.assertEqual((((8, 3, 5, 1), 2), ((1, 0), (1, 2), (1, 1), (0, 1)), (), ()), told_by(store))

    def test_none(self):
        for deeds in [[], ()]:
            store = Store(HOUSE, STAND, most=0)
            self.assertIsNone(store.tried(deeds))
            self.assertEqual((0, ()), (len(store), store.log()))

    def test_twenty_and_twenty_one(self):
        deeds = [("lock", 0), ("unlock", 0)] * 10
        store = Store(HOUSE, STAND)
        store.tried(deeds)
        self.assertEqual(20, len(store))
        for more in [deeds + [("lock", 0)], tuple(deeds) + (("lock", 9),), deeds * 50]:
            self.refuse_ask(NoDeeds, None, store, "tried", more)

    def test_no_deeds(self):
        store = Store(HOUSE, STAND)
        store.lock(3)
        good = ("lock", 0)
        # Of odd things none is a row of deeds but those without anything in them.
        rows = [0, 1, *[thing for thing in odd_things() if thing not in ((), [])], good, {"lock": 0}, "lock", [[good]]]
        deeds = [
            (), ("lock",), ("lock", 0, 1), ["lock", 0], ("back",), ("tried", []), ("stand",), ("Lock", 0), (0, 0),
            (None, 0), (["lock"], 0), (("lock",), 0), ({}, 0), "lock 0", None, 7, True, {}, ("carry", 0, 0, 2),
            ("carry", 0, 0, 2, 1, 1), ("bring", 0, 0), ("take", 0, 0, 1, 1), ("widen", 0), ("narrow", 0, 1, 1),
            ("unlock",), ("wish", "a"), ("wish", "a", WISH, WISH), ("drop",), ("drop", "a", "b"), ("log",), ("", 0),
        ]
        for row in [*rows, *[[deed] for deed in deeds], *[(good, deed) for deed in deeds]]:
            self.refuse_ask(NoDeeds, None, store, "tried", row)
        # It is ahead of all else, also where a deed in front of it is refused or most deeds stand.
        self.refuse_ask(NoDeeds, None, store, "tried", [("lock", 3), None])
        self.refuse_ask(NoDeeds, None, Store(HOUSE, STAND, most=0), "tried", [good, None])

    def break_at(self, at, how, store, deeds):
        """Try deeds of which one is refused."""
        ahead = repr((deeds, told_by(store), len(store)))
        log = store.log()
        with self.assertRaises(RoomError) as caught:
            store.tried(deeds)
        self.assertIs(Broken, type(caught.exception))
        self.assertEqual(repr(at), repr(caught.exception.at))
        self.assertEqual(ahead, repr((deeds, told_by(store), len(store))))
        rows = tuple((deed[0], "undone") for deed in deeds[:at]) + ((deeds[at][0], how),)
        self.assertEqual(log + rows, store.log())

    def test_broken(self):
        store, told = led()
        self.break_at(0, "NoRoom", store, [("lock", 9)])
        self.break_at(2, "Locked", store, [("lock", 0), ("wish", "c", WISH), ("lock", 0), ("lock", 1)])
        self.break_at(1, "NoName", store, (("drop", "b"), ("drop", "b"), ("drop", "b")))
        self.break_at(1, "Lacks", store, [("take", 1, 0, 1), ("take", 1, 0, 1)])
        self.break_at(19, "Open", store, [("lock", 0), ("unlock", 0)] * 9 + [("lock", 0), ("unlock", 1)])
        self.break_at(0, "NoKind", store, [("carry", None, [], True, {})])
        self.break_at(1, "BadStand", store, [("narrow", 3, 1), ("wish", "d", ((0, 0), (0, 0), (0, 0), (0, 5)))])

    def test_broken_where_most_deeds_stand(self):
        store = Store(HOUSE, STAND, most=3)
        store.lock(0)
        self.break_at(2, "TooMany", store, [("lock", 1), ("lock", 2), ("lock", 3)])
        store.tried([("lock", 1), ("lock", 2)])
        self.break_at(0, "TooMany", store, [("lock", None)])

    def test_behind_a_broken_one_all_goes_on(self):
        store, told = led()
        self.break_at(1, "NoNumber", store, [("lock", 0), ("widen", 1, True)])
        for at, row in enumerate(told):
            self.assertEqual(row[0], store.house(at=at))
            self.assertEqual(row[1], store.stand(at=at))
        store.lock(0)
        self.assertEqual(((0,), 9), (store.locked(), len(store)))

    def test_by_chance(self):
        chance = random.Random(5)
        worths = {
            "kind": [0, 0, 1, 2], "room": [0, 1, 2, 3, 4], "here": [0, 1, 2, 3], "there": [0, 1, 2, 3],
            "many": [1, 1, 2, 0], "name": ["a", "b", "C"], "stand": [STAND, WISH, ()],
        }
        broken = 0
        for _ in range(300):
            store, model = Store(HOUSE, STAND, most=12), Model(HOUSE, STAND, 12)
            for _ in range(6):
                words = [chance.choice(list(TAKES)) for _ in range(chance.randrange(5))]
                deeds = [(word, *[chance.choice(worths[key]) for key in TAKES[word]]) for word in words]
                for at, (word, *handed) in enumerate(deeds):
                    refusal = model.refusal(word, handed)
                    if refusal is not None:
                        for _ in range(at):
                            model.back()
                        self.break_at(at, refusal[0], store, deeds)
                        broken += 1
                        break
                    model.do(word, handed)
                else:
                    self.assertIsNone(store.tried(deeds))
                self.assertEqual((model.told(), len(model.past)), (told_by(store), len(store)))
        self.assertGreater(broken, 300)


class Log(Looking):

    def test_each_deed_asked_in_order(self):
        store = Store(HOUSE, STAND, most=3)
        wanted = []
        for word, handed, how in [
            ("back", (), "NothingBack"), ("lock", (0,), "done"), ("lock", (0,), "Locked"), ("unlock", (1,), "Open"),
            ("carry", (0, 0, 1, 1), "Locked"), ("bring", (0, 2, 9), "Full"), ("take", (0, 2, 1), "Lacks"),
            ("widen", (2, GREAT), "TooGreat"), ("narrow", (2, 5), "Full"), ("wish", ("A", WISH), "NoName"),
            ("wish", ("a", None), "BadStand"), ("wish", ("a", WISH), "done"), ("drop", ("b",), "NoName"),
            ("carry", (9, 0, 1, 1), "NoKind"), ("carry", (0, 0, 0, 1), "NoRoom"), ("carry", (0, 2, 1, 0), "NoNumber"),
            ("drop", ("a",), "done"), ("lock", (1,), "TooMany"), ("back", (), "done"),
        ]:
            try:
                self.assertIsNone(getattr(store, word)(*handed))
            except RoomError as refusal:
                self.assertEqual(how, type(refusal).__name__)
            wanted.append((word, how))
            self.assertEqual(tuple(wanted), self.ask_store(store, "log"))

    def test_a_log_told_ahead_stays(self):
        store = Store(HOUSE, STAND)
        store.lock(0)
        told = store.log()
        store.lock(1)
        self.assertEqual((("lock", "done"),), told)

    def test_questions_are_not_told_of(self):
        store, told = led()
        log = store.log()
        for word in ("house", "stand", "locked", "wishes", "log", "twin"):
            getattr(store, word)()
        for word in ("wished", *WAYS):
            self.assertRaises(NoName, getattr(store, word), None)
        self.assertEqual(log, store.log())


class Alike(Looking):

    def test_equal_by_house_stand_locks_and_wishes_alone(self):
        one, other = Store(HOUSE, STAND, most=5), Store(HOUSE, STAND)
        other.lock(0)
        other.unlock(0)
        self.assertTrue(one == other and not one != other)
        for word, handed in [("lock", (1,)), ("wish", ("a", WISH)), ("carry", (0, 0, 2, 1)), ("widen", (0, 1))]:
            ahead = one.twin()
            getattr(one, word)(*handed)
            self.assertFalse(one == other or ahead == one)
            self.assertTrue(one != other and ahead != one)
            getattr(other, word)(*handed)
            self.assertTrue(one == other and not one != other)

    def test_by_the_same_name_another_wish(self):
        one, other = Store(HOUSE, STAND), Store(HOUSE, STAND)
        one.wish("a", WISH)
        other.wish("a", STAND)
        self.assertFalse(one == other)
        other.wish("b", WISH)
        self.assertFalse(one == other)
        other.drop("a")
        self.assertFalse(one == other)

    def test_in_whatever_order(self):
        one, other = Store(HOUSE, STAND), Store(HOUSE, STAND)
        one.tried([("wish", "a", WISH), ("wish", "b", STAND), ("lock", 0), ("lock", 2)])
        other.tried([("lock", 2), ("wish", "b", STAND), ("lock", 0), ("wish", "a", WISH)])
        self.assertTrue(one == other)

    def test_to_nothing_else(self):
        store = Store(HOUSE, STAND)
        for thing in [0, 1, HOUSE, STAND, (HOUSE, STAND), told_by(store), str(store), *odd_things()]:
            self.assertIs(False, store == thing)
            self.assertIs(True, store != thing)
            self.assertIs(False, thing == store)

    def test_length(self):
        store, told = led()
        self.assertEqual(8, len(store))
        store.back()
        self.assertEqual(7, len(store))
        self.assertRaises(NoName, store.drop, "x")
        self.assertEqual(7, len(store))

    def test_text(self):
        store = Store(((4, 3, 5), 2), ((2, 1), (1, 2), (0, 1)))
        self.assertEqual("store of 3 rooms, 2 kinds, 5 places", str(store))
        store.lock(2)
        self.assertEqual("store of 3 rooms, 2 kinds, 5 places", str(store))
        store.bring(0, 0, 1)
        store.widen(1, GREAT - 3)
        self.assertEqual("store of 3 rooms, 2 kinds, 1000000000001 places", str(store))
        self.assertEqual("store of 1 rooms, 1 kinds, 1 places", str(Store(((1,), 1), ((0,),))))
        self.assertEqual("store of 1 rooms, 1 kinds, 0 places", str(Store(((1,), 1), ((1,),))))


class Twin(Looking):

    def test_it_stands_alike(self):
        store, told = led()
        self.assertRaises(NoName, store.drop, "x")
        store.back()
        twin = store.twin()
        self.assertIs(Store, type(twin))
        self.assertEqual(store, twin)
        self.assertEqual((store.log(), len(store), store.most), (twin.log(), len(twin), twin.most))
        for at in range(len(store) + 1):
            self.assertEqual((store.stand(at=at), store.house(at=at)), (twin.stand(at=at), twin.house(at=at)))
        while len(store):
            store.back()
            twin.back()
            self.assertEqual((told_by(store), store.log()), (told_by(twin), twin.log()))

    def test_it_goes_its_own_way(self):
        store, told = led()
        log = store.log()
        twin = store.twin()
        twin.lock(0)
        self.assertRaises(NoName, twin.drop, "x")
        self.assertRaises(Broken, twin.tried, [("lock", 2), ("lock", 2)])
        self.assertEqual((told[-1], log, 8), (told_by(store), store.log(), len(store)))
        behind = (told_by(twin), twin.log(), len(twin))
        for _ in range(8):
            store.back()
        self.assertEqual(told[0], told_by(store))
        self.assertEqual(behind, (told_by(twin), twin.log(), len(twin)))

    def test_the_same_most(self):
        store = Store(HOUSE, STAND, most=2)
        store.lock(0)
        twin = store.twin()
        twin.lock(1)
        self.refuse(TooMany, 2, twin, "lock", 2)
        self.do(store, "lock", 2)
        self.assertEqual(((0, 1), (0, 2)), (twin.locked(), store.locked()))

    def test_a_twin_of_a_twin(self):
        store, told = led()
        twin = store.twin().twin()
        self.assertEqual((store, store.log()), (twin, twin.log()))


if __name__ == "__main__":
    unittest.main()
