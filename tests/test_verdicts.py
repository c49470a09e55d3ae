"""Verdicts [19], and what [3] says of what a judge lets by."""

import itertools
import random
import unittest

from asking import GREAT, SMALL, Asking, great_task, odd_things, played, shut_task, spoilt, stands_of
from fullrooms.fewest import fewest
from fullrooms.papers import bar_holds
from fullrooms.plans import is_least
from fullrooms.verdicts import verdict, verdict_holds

HOUSE = ((2, 2, 3), 2)
STAND = ((2, 0), (0, 2), (1, 0))
WISH = ((1, 1), (1, 1), (1, 0))
LEAST = ((1, ((0, 0, 2), (1, 1, 0), (0, 2, 1))),)
OTHER_LEAST = ((1, ((1, 1, 2), (0, 0, 1), (1, 2, 0))),)
LONGER = ((1, ((0, 0, 2), (0, 2, 0))), *LEAST)
FULL = ((1, 1), 2)
FULL_STAND = ((1, 0), (0, 1))
FULL_WISH = ((0, 1), (1, 0))


class Verdict(Asking):

    def test_a_plan(self):
        word, told = self.ask(verdict, HOUSE, STAND, WISH)
        self.assertEqual("plan", word)
        self.assertEqual(WISH, played(HOUSE, STAND, told))
        self.assertEqual(3, sum(many * len(deeds) for many, deeds in told))
        self.assert_tells(("plan", ()), verdict, HOUSE, STAND, STAND)
        self.assert_tells(("plan", ()), verdict, FULL, FULL_STAND, FULL_STAND)

    def test_things_by_the_first_kind(self):
        self.assert_tells(("bar", ("things", 1)), verdict, HOUSE, STAND, ((2, 0), (0, 1), (1, 0)))
        self.assert_tells(("bar", ("things", 0)), verdict, HOUSE, STAND, ((2, 0), (0, 1), (0, 0)))
        house = ((9,), 3)
        self.assert_tells(("bar", ("things", 2)), verdict, house, ((1, 1, 1),), ((1, 1, 0),))

    def test_full(self):
        self.assert_tells(("bar", ("full",)), verdict, FULL, FULL_STAND, FULL_WISH)

    def test_things_ahead_of_full(self):
        self.assert_tells(("bar", ("things", 0)), verdict, FULL, FULL_STAND, ((0, 1), (0, 1)))
        self.assert_tells(("bar", ("things", 1)), verdict, FULL, FULL_STAND, ((1, 0), (0, 0)))

    def test_of_all_stands(self):
        for house in [((1, 1), 2), ((2, 1), 2), ((1, 1, 1), 2), ((2, 2), 1)]:
            for stand, wish in itertools.product(stands_of(house), repeat=2):
                told = self.ask(verdict, house, stand, wish)
                have, want = [[sum(row[kind] for row in one) for kind in range(house[1])] for one in (stand, wish)]
                unlike = [kind for kind in range(house[1]) if have[kind] != want[kind]]
                if unlike:
                    self.assertEqual(("bar", ("things", unlike[0])), told)
                elif stand != wish and sum(have) == sum(house[0]):
                    self.assertEqual(("bar", ("full",)), told)
                else:
                    self.assertEqual("plan", told[0])
                self.assert_tells(True, verdict_holds, house, stand, wish, told)

    def test_great_amounts(self):
        chance = random.Random(1)
        for _ in range(60):
            for house, stand, wish in (great_task(chance), shut_task(chance)):
                word, told = self.ask(verdict, house, stand, wish)
                self.assertEqual("plan", word)
                self.assertEqual(wish, played(house, stand, told))
                self.assertEqual(fewest(house, stand, wish), sum(many * len(deeds) for many, deeds in told))
                self.assert_tells(True, verdict_holds, house, stand, wish, (word, told))


class Holds(Asking):

    def test_any_plan_of_fewest_deeds(self):
        for told in [LEAST, OTHER_LEAST, tuple((1, (deed,)) for deed in LEAST[0][1])]:
            self.assert_tells(True, verdict_holds, HOUSE, STAND, WISH, ("plan", told))
        for told in [LONGER, (), LEAST[0], LEAST[0][1], list(LEAST), None, "plan"]:
            self.assert_tells(False, verdict_holds, HOUSE, STAND, WISH, ("plan", told))

    def test_any_bar(self):
        # Of both kinds both don't have as many, and no room has a place.
        stand, wish = ((1, 0), (0, 1)), ((0, 0), (0, 0))
        for told in [("things", 0), ("things", 1), ("full",)]:
            self.assert_tells(True, verdict_holds, FULL, stand, wish, ("bar", told))
        for told in [("things", 2), ("things", True), ("things",), ("full", 0), ["full"], "full", None, ()]:
            self.assert_tells(False, verdict_holds, FULL, stand, wish, ("bar", told))

    def test_each_word_with_the_others_thing(self):
        self.assert_tells(False, verdict_holds, HOUSE, STAND, WISH, ("bar", LEAST))
        self.assert_tells(False, verdict_holds, FULL, FULL_STAND, FULL_WISH, ("plan", ("full",)))
        self.assert_tells(False, verdict_holds, FULL, FULL_STAND, FULL_WISH, ("full",))
        self.assert_tells(False, verdict_holds, HOUSE, STAND, WISH, LEAST)

    def test_lists_and_other_words(self):
        for thing in [
            ["plan", LEAST], ("Plan", LEAST), ("plans", LEAST), ("plan", LEAST, 0), ("plan",), ("", LEAST),
            (True, LEAST), (None, LEAST), (0, LEAST), (("plan",), LEAST), {"plan": LEAST}, (LEAST, "plan"), "plan",
            ("plan", [LEAST]),
        ]:
            self.assert_tells(False, verdict_holds, HOUSE, STAND, WISH, thing)
        bar = ("full",)
        for thing in [["bar", bar], ("Bar", bar), ("bar",), ("bar", "full"), ("bar", bar, 0), ("no", bar)]:
            self.assert_tells(False, verdict_holds, FULL, FULL_STAND, FULL_WISH, thing)

    def test_of_anything(self):
        for thing in [0, 1, *odd_things()]:
            self.assert_tells(False, verdict_holds, HOUSE, STAND, WISH, thing)
            self.assert_tells(False, verdict_holds, FULL, FULL_STAND, FULL_WISH, thing)
            for word in ("plan", "bar"):
                self.assert_tells(False, verdict_holds, FULL, FULL_STAND, FULL_WISH, (word, thing))
                if word == "bar" or thing != ():
                    self.assert_tells(False, verdict_holds, HOUSE, STAND, STAND, (word, thing))
        for thing in spoilt(("plan", LEAST)):
            holds = type(thing) is tuple and len(thing) == 2 and thing[0] == "plan"
            holds = holds and is_least(HOUSE, STAND, WISH, thing[1])
            self.assert_tells(holds, verdict_holds, HOUSE, STAND, WISH, thing)

    def test_just_one_of_both_words_is_ever_right(self):
        plans = [(), *[((many, row),) for many in (1, 2) for row in [
            ((0, 0, 1),), ((0, 1, 0),), ((1, 0, 1),), ((1, 1, 0),), ((0, 0, 1), (1, 1, 0)), ((0, 1, 0), (1, 0, 1)),
        ]]]
        bars = [("full",), ("things", 0), ("things", 1)]
        for house in [((1, 1), 2), ((2, 1), 2), ((2, 2), 2)]:
            for stand, wish in itertools.product(stands_of(house), repeat=2):
                some_bar = any(verdict_holds(house, stand, wish, ("bar", bar)) for bar in bars)
                some_plan = any(verdict_holds(house, stand, wish, ("plan", told)) for told in plans)
                self.assertFalse(some_bar and some_plan)
                self.assertEqual("bar" if some_bar else "plan", verdict(house, stand, wish)[0])
                for bar in bars:
                    self.assertIs(bar_holds(house, stand, wish, bar), verdict_holds(house, stand, wish, ("bar", bar)))

    def test_of_small_houses(self):
        for house in SMALL[:8]:
            for stand in stands_of(house):
                self.assert_tells(True, verdict_holds, house, stand, stand, ("plan", ()))
                for bar in [("full",), *[("things", kind) for kind in range(house[1])]]:
                    self.assert_tells(False, verdict_holds, house, stand, stand, ("bar", bar))

    def test_great_amounts(self):
        house = ((GREAT, GREAT, 1), 2)
        stand = ((GREAT, 0), (0, GREAT), (0, 0))
        wish = (stand[1], stand[0], stand[2])
        told = ((1, ((0, 0, 2),)), (GREAT - 1, ((1, 1, 0), (0, 0, 1))), (1, ((1, 1, 0), (0, 2, 1))))
        self.assert_tells(True, verdict_holds, house, stand, wish, ("plan", told))
        self.assert_tells(False, verdict_holds, house, stand, wish, ("plan", (*told, (1, ((0, 1, 2), (0, 2, 1))))))
        self.assert_tells(False, verdict_holds, house, stand, wish, ("plan", (told[1], told[0], told[2])))


if __name__ == "__main__":
    unittest.main()
