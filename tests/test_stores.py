"""Stores: their making, their deeds and what is refused of them [28], [29]."""

import itertools
import random
import unittest

from asking import GREAT, Asking, odd_things, spoilt
from fullrooms.errors import (
    BadHouse, BadStand, Full, Lacks, Locked, NoKind, NoName, NoNumber, NoRoom, NothingBack, Open, RoomError,
    TooGreat, TooMany
)
from fullrooms.houses import is_house
from fullrooms.stores import DEEDS, Store
from model import TAKES, Model, class_of, field_of

HOUSE = ((4, 3, 5, 1), 2)
STAND = ((2, 1), (1, 2), (0, 1), (0, 0))
WISH = ((1, 1), (1, 1), (1, 1), (0, 1))


def told_by(store):
    """House, stand, locked rooms and wishes."""
    wishes = tuple((name, store.wished(name)) for name in store.wishes())
    return (store.house(), store.stand(), store.locked(), wishes)


class Storing(Asking):
    """Does deeds with a store and a model alike."""

    def do(self, store, word, *handed):
        """Do a deed that is not refused."""
        ahead = repr(handed)
        self.assertIsNone(getattr(store, word)(*handed))
        self.assertEqual(ahead, repr(handed), "what was handed in is changed")
        self.assertEqual((word, "done"), store.log()[-1])

    def refuse(self, error, worth, store, word, *handed):
        """Ask for a deed that is refused, and look that nothing but the log is changed."""
        ahead = repr((handed, told_by(store), len(store)))
        log = store.log()
        with self.assertRaises(RoomError) as caught:
            getattr(store, word)(*handed)
        self.assertIs(error, type(caught.exception), (word, repr(handed)[:200]))
        self.assertIs(worth, field_of(caught.exception))
        self.assertEqual(ahead, repr((handed, told_by(store), len(store))))
        self.assertEqual((*log, (word, error.__name__)), store.log())

    def alike(self, store, model, word, handed):
        """Do a deed with both, or see it refused by both alike; tell whether it was done."""
        refusal = model.refusal(word, handed)
        if refusal is None:
            self.do(store, word, *handed)
            model.do(word, handed)
            model.log.append((word, "done"))
        else:
            self.refuse(class_of(refusal[0]), refusal[1], store, word, *handed)
            model.log.append((word, refusal[0]))
        self.assertEqual(repr(model.told()), repr(told_by(store)))
        return refusal is None


class Made(Storing):

    def test_what_it_has_at_first(self):
        store = Store(HOUSE, STAND)
        self.assertEqual((HOUSE, STAND, (), ()), told_by(store))
        self.assertEqual((0, ()), (len(store), store.log()))
        self.assertEqual((60, 60), (DEEDS, store.most))
        self.assertEqual(7, Store(HOUSE, STAND, most=7).most)

    def test_refused_of_anything(self):
        for thing in [0, 5, *odd_things(), *spoilt(HOUSE)]:
            if not is_house(thing):
                self.assert_refuses(BadHouse, None, None, Store, thing, STAND)
                self.assert_refuses(BadHouse, None, None, Store, thing, None)

    def test_refused_stands(self):
        for thing in [0, 5, *odd_things(), None, (), STAND[:3], (*STAND, (0, 0)), list(STAND), ((5, 0), *STAND[1:])]:
            self.assert_refuses(BadStand, None, None, Store, HOUSE, thing)
        for thing in [(True, 1), [2, 1], (2,), (2, 1, 0), (-1, 1), (4, 1), (2, None), ("2", "1")]:
            self.assert_refuses(BadStand, None, None, Store, HOUSE, (thing, *STAND[1:]))

    def test_most_is_handed_in_by_its_name_alone(self):
        with self.assertRaises(TypeError):
            Store(HOUSE, STAND, 5)


class Done(Storing):

    def test_carry(self):
        store = Store(HOUSE, STAND)
        self.do(store, "carry", 0, 0, 2, 2)
        self.assertEqual(((0, 1), (1, 2), (2, 1), (0, 0)), store.stand())
        self.do(store, "carry", 1, 1, 3, 1)
        self.assertEqual(((0, 1), (1, 1), (2, 1), (0, 1)), store.stand())
        self.assertEqual((HOUSE, 2), (store.house(), len(store)))

    def test_bring_and_take(self):
        store = Store(HOUSE, STAND)
        self.do(store, "bring", 1, 2, 4)
        self.assertEqual(((2, 1), (1, 2), (0, 5), (0, 0)), store.stand())
        self.do(store, "take", 0, 0, 2)
        self.assertEqual(((0, 1), (1, 2), (0, 5), (0, 0)), store.stand())
        self.assertEqual(HOUSE, store.house())

    def test_widen_and_narrow(self):
        store = Store(HOUSE, STAND)
        self.do(store, "widen", 3, GREAT - 1)
        self.assertEqual(((4, 3, 5, GREAT), 2), store.house())
        self.do(store, "narrow", 3, GREAT - 1)
        self.do(store, "narrow", 2, 4)
        self.assertEqual(((4, 3, 1, 1), 2), store.house())
        self.assertEqual(STAND, store.stand())

    def test_lock_and_unlock(self):
        store = Store(HOUSE, STAND)
        for room in (2, 0, 3, 1):
            self.do(store, "lock", room)
        self.assertEqual((0, 1, 2, 3), store.locked())
        self.do(store, "unlock", 2)
        self.assertEqual((0, 1, 3), store.locked())
        self.assertEqual((HOUSE, STAND), (store.house(), store.stand()))

    def test_wish_and_drop(self):
        store = Store(HOUSE, STAND)
        for name in ("b", "abcdefgh", "z", "a"):
            self.do(store, "wish", name, WISH)
        self.assertEqual(("a", "abcdefgh", "b", "z"), store.wishes())
        self.do(store, "wish", "b", STAND)
        self.assertEqual((STAND, WISH), (store.wished("b"), store.wished("a")))
        self.do(store, "drop", "a")
        self.assertEqual(("abcdefgh", "b", "z"), store.wishes())

    def test_a_wish_of_unlike_things_or_in_locked_rooms(self):
        store = Store(HOUSE, STAND)
        self.do(store, "lock", 0)
        self.do(store, "wish", "none", ((0, 0),) * 4)
        self.assertEqual(((0, 0),) * 4, store.wished("none"))

    def test_what_is_right_where_it_is_locked_elsewhere(self):
        store = Store(HOUSE, STAND)
        self.do(store, "lock", 1)
        self.do(store, "carry", 0, 0, 2, 1)
        self.do(store, "bring", 0, 2, 1)
        self.do(store, "take", 1, 0, 1)
        self.do(store, "widen", 2, 1)
        self.do(store, "narrow", 2, 1)


class Refused(Storing):
    """Each refusal of [29] by itself, with its field as handed in."""

    def test_no_kind(self):
        store = Store(HOUSE, STAND)
        for thing in [-1, 2, GREAT, 10 ** 59, *odd_things()]:
            for word in ("carry", "bring", "take"):
                self.refuse(NoKind, thing, store, word, thing, *([0, 2, 1] if word == "carry" else [0, 1]))

    def test_no_room(self):
        store = Store(HOUSE, STAND)
        for thing in [-1, 4, GREAT, 10 ** 59, *odd_things()]:
            self.refuse(NoRoom, thing, store, "carry", 0, thing, 2, 1)
            self.refuse(NoRoom, thing, store, "carry", 0, 0, thing, 1)
            for word in ("bring", "take"):
                self.refuse(NoRoom, thing, store, word, 0, thing, 1)
            for word in ("widen", "narrow"):
                self.refuse(NoRoom, thing, store, word, thing, 1)
            for word in ("lock", "unlock"):
                self.refuse(NoRoom, thing, store, word, thing)
        self.refuse(NoRoom, 1, store, "carry", 0, 1, 1, 1)

    def test_no_number(self):
        store = Store(HOUSE, STAND)
        for thing in [0, -1, GREAT + 1, 10 ** 59, *odd_things()]:
            self.refuse(NoNumber, thing, store, "carry", 0, 0, 2, thing)
            for word in ("bring", "take"):
                self.refuse(NoNumber, thing, store, word, 0, 0, thing)
            for word in ("widen", "narrow"):
                self.refuse(NoNumber, thing, store, word, 2, thing)

    def test_no_name(self):
        store = Store(HOUSE, STAND)
        store.wish("known", WISH)
        for thing in [0, 1, "A", "aB", "abcdefghi", "a b", "a1", " a", "a\n", "\n", ("known",), *odd_things()]:
            self.refuse(NoName, thing, store, "wish", thing, WISH)
            self.refuse(NoName, thing, store, "drop", thing)
        for thing in ["know", "knowns", "a", "zzzzzzzz"]:
            self.refuse(NoName, thing, store, "drop", thing)

    def test_locked(self):
        store = Store(HOUSE, STAND)
        store.lock(0)
        store.lock(2)
        self.refuse(Locked, 0, store, "carry", 0, 0, 1, 1)
        self.refuse(Locked, 2, store, "carry", 0, 1, 2, 1)
        self.refuse(Locked, 0, store, "carry", 0, 0, 2, 1)
        self.refuse(Locked, 2, store, "carry", 1, 2, 0, 1)
        for word in ("bring", "take"):
            self.refuse(Locked, 0, store, word, 0, 0, 1)
        for word in ("widen", "narrow"):
            self.refuse(Locked, 2, store, word, 2, 1)
        self.refuse(Locked, 2, store, "lock", 2)

    def test_open(self):
        store = Store(HOUSE, STAND)
        store.lock(1)
        for room in (0, 2, 3):
            self.refuse(Open, room, store, "unlock", room)
        store.unlock(1)
        self.refuse(Open, 1, store, "unlock", 1)

    def test_bad_stand(self):
        store = Store(HOUSE, STAND)
        others = [WISH[:3], list(WISH), (*WISH, (0, 0)), ((True, 1), *WISH[1:]), ((4, 1), *WISH[1:])]
        for thing in [0, *odd_things(), *others]:
            self.refuse(BadStand, None, store, "wish", "some", thing)

    def test_a_stand_of_the_house_as_it_is_now(self):
        store = Store(HOUSE, STAND)
        wide = ((4, 1), *WISH[1:])
        self.refuse(BadStand, None, store, "wish", "some", wide)
        store.widen(0, 1)
        self.do(store, "wish", "some", wide)
        store.narrow(0, 1)
        self.refuse(BadStand, None, store, "wish", "some", wide)
        self.assertEqual(wide, store.wished("some"))

    def test_lacks_and_full_of_carry(self):
        store = Store(((9, 3), 1), ((5,), (0,)))
        self.refuse(Full, 1, store, "carry", 0, 0, 1, 4)
        self.refuse(Full, 1, store, "carry", 0, 0, 1, 6)
        store = Store(((9, 5), 1), ((5,), (0,)))
        self.refuse(Lacks, 0, store, "carry", 0, 0, 1, 6)
        store = Store(((9, 6), 1), ((5,), (0,)))
        self.refuse(Lacks, 0, store, "carry", 0, 0, 1, GREAT)
        self.do(store, "carry", 0, 0, 1, 5)

    def test_lacks_of_take_and_full_of_bring(self):
        store = Store(HOUSE, STAND)
        self.refuse(Lacks, 0, store, "take", 0, 0, 3)
        self.refuse(Lacks, 3, store, "take", 1, 3, 1)
        self.refuse(Full, 0, store, "bring", 0, 0, 2)
        self.refuse(Full, 1, store, "bring", 1, 1, 1)
        self.refuse(Full, 2, store, "bring", 1, 2, GREAT)

    def test_full_of_narrow(self):
        store = Store(HOUSE, STAND)
        self.refuse(Full, 0, store, "narrow", 0, 2)
        self.do(store, "narrow", 0, 1)
        self.refuse(Full, 0, store, "narrow", 0, 1)
        self.refuse(Full, 3, store, "narrow", 3, 1)
        store.take(1, 2, 1)
        self.refuse(Full, 2, store, "narrow", 2, 5)
        self.refuse(Full, 2, store, "narrow", 2, GREAT)
        self.do(store, "narrow", 2, 4)

    def test_too_great(self):
        store = Store(HOUSE, STAND)
        self.refuse(TooGreat, None, store, "widen", 0, GREAT)
        self.refuse(TooGreat, None, store, "widen", 0, GREAT - 3)
        self.do(store, "widen", 0, GREAT - 4)
        self.refuse(TooGreat, None, store, "widen", 0, 1)

    def test_too_many(self):
        for most in (0, 1, 3):
            store = Store(HOUSE, STAND, most=most)
            for at in range(most):
                self.do(store, "wish", "a", WISH)
            for word, takes in TAKES.items():
                self.refuse(TooMany, store.most, store, word, *[None for key in takes])
            if most:
                self.do(store, "back")
                self.do(store, "lock", 0)
                self.refuse(TooMany, store.most, store, "unlock", 0)

    def test_sixty_deeds(self):
        store = Store(HOUSE, STAND)
        for at in range(30):
            store.lock(0)
            store.unlock(0)
        self.refuse(TooMany, 60, store, "lock", 0)
        self.assertEqual(60, len(store))

    def test_nothing_back(self):
        store = Store(HOUSE, STAND)
        self.refuse(NothingBack, None, store, "back")
        store.lock(0)
        self.do(store, "back")
        self.refuse(NothingBack, None, store, "back")
        self.refuse(NothingBack, None, Store(HOUSE, STAND, most=0), "back")


class InOrder(Storing):
    """All that may be due of a deed at once, held against the document's order."""

    numbers = [0, 1, 2, 3, True, None, [1]]
    amounts = [0, 1, 2, 4, GREAT, GREAT + 1, True, "1"]
    names = ["a", "b", "A", "", None, ("a",)]
    stands = [WISH, STAND, ((9, 9),) * 4, (), None, list(WISH)]

    def made(self, most, narrowed):
        store, model = Store(HOUSE, STAND, most=most), Model(HOUSE, STAND, most)
        deeds = [("lock", (1,)), ("lock", (3,)), ("wish", ("a", WISH))] + [("narrow", (2, 3))] * narrowed
        for word, handed in deeds:
            if model.refusal(word, handed) is None:
                self.alike(store, model, word, handed)
        return store, model

    def test_each_deed(self):
        worths = {
            "kind": self.numbers, "room": self.numbers, "here": self.numbers, "there": self.numbers,
            "many": self.amounts, "name": self.names, "stand": self.stands,
        }
        for most, narrowed in [(4, 1), (5, 1), (60, 0)]:
            store, model = self.made(most, narrowed)
            for word, takes in TAKES.items():
                for handed in itertools.product(*[worths[key] for key in takes]):
                    refusal = model.refusal(word, handed)
                    if refusal is not None:
                        with self.assertRaises(RoomError) as caught:
                            getattr(store, word)(*handed)
                        self.assertIs(class_of(refusal[0]), type(caught.exception), (word, handed))
                        self.assertIs(refusal[1], field_of(caught.exception), (word, handed))
                    elif len(store) < most:
                        getattr(store, word)(*handed)
                        model.do(word, handed)
                        self.assertEqual(model.told(), told_by(store))
                        model.back()
                        store.back()
            self.assertEqual(model.told(), told_by(store))


class Histories(Storing):

    def worth(self, chance, key, model):
        """Something to hand in, mostly right."""
        if chance.randrange(25) == 0:
            return chance.choice([-1, 99, GREAT + 1, *odd_things()])
        if key == "kind":
            return chance.randrange(model.kinds)
        if key in ("room", "here", "there"):
            return chance.randrange(len(model.sizes))
        if key == "many":
            return chance.choice([1, 1, 1, 2, 2, 3, 5, 40, GREAT])
        if key == "name":
            return chance.choice(["a", "b", "c", "longname"])
        rows = [[0] * model.kinds for _ in model.sizes]
        for row, size in zip(rows, model.sizes):
            for _ in range(min(5, chance.randrange(size + 1) + (chance.randrange(9) == 0))):
                row[chance.randrange(model.kinds)] += 1
        return tuple(map(tuple, rows))

    def test_by_chance(self):
        chance = random.Random(1)
        done = refused = 0
        for _ in range(60):
            house = (tuple(chance.choice([1, 2, 3, 9, GREAT]) for _ in range(chance.randrange(1, 9))), 1)
            house = (house[0], chance.randrange(1, 7))
            stand = tuple((chance.randrange(size % 10 + 1),) + (0,) * (house[1] - 1) for size in house[0])
            most = chance.choice([0, 3, 10, 60])
            store, model = Store(house, stand, most=most), Model(house, stand, most)
            for _ in range(60):
                word = chance.choice([*TAKES, "back", "back"])
                if word != "back":
                    was = self.alike(store, model, word, tuple(self.worth(chance, key, model) for key in TAKES[word]))
                    done, refused = done + was, refused + (not was)
                elif model.past:
                    self.do(store, "back")
                    model.back()
                    model.log.append(("back", "done"))
                else:
                    self.refuse(NothingBack, None, store, "back")
                    model.log.append(("back", "NothingBack"))
                self.assertEqual(len(model.past), len(store))
            self.assertEqual(tuple(model.log), store.log())
            for at, told in enumerate(model.moments()):
                self.assertEqual(told[0], store.house(at=at))
                self.assertEqual(told[1], store.stand(at=at))
                self.assertEqual(told[2], store.locked(at=at))
                self.assertEqual(tuple(name for name, wish in told[3]), store.wishes(at=at))
                self.assertEqual(told[3], tuple((name, store.wished(name, at=at)) for name, wish in told[3]))
            while model.past:
                self.do(store, "back")
                model.back()
                self.assertEqual(model.told(), told_by(store))
        self.assertGreater(done, 500)
        self.assertGreater(refused, 500)


if __name__ == "__main__":
    unittest.main()
