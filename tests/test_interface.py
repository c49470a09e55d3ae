"""The interface's names and arguments, as the document writes them."""

import inspect
import unittest

from fullrooms import (
    arcs, changes, desks, fewest, hanging, houses, leading, papers, pieces, plans, stores, texts, trails, verdicts, wholes
)

FUNCTIONS = [
    (wholes, "is_whole", ["thing"]),
    (wholes, "is_from", ["thing", "low", "high"]),
    (houses, "is_house", ["thing"]),
    (houses, "is_stand", ["house", "thing"]),
    (houses, "is_deed", ["house", "thing"]),
    (houses, "places", ["house", "stand"]),
    (houses, "things", ["stand"]),
    (houses, "moved", ["house", "stand", "deed"]),
    (houses, "moved_many", ["house", "stand", "deed", "many"]),
    (houses, "deeds_at", ["house", "stand"]),
    (pieces, "amiss", ["stand", "wish"]),
    (pieces, "too_many", ["stand", "wish"]),
    (pieces, "pieces", ["stand", "wish"]),
    (pieces, "is_shut", ["house", "stand", "piece"]),
    (pieces, "shut_pieces", ["house", "stand", "wish"]),
    (fewest, "fewest", ["house", "stand", "wish"]),
    (papers, "none_fewer", ["house", "stand", "wish"]),
    (papers, "none_fewer_holds", ["house", "stand", "wish", "thing"]),
    (papers, "bar_holds", ["house", "stand", "wish", "thing"]),
    (arcs, "matching", ["stand", "wish"]),
    (arcs, "matching_holds", ["stand", "wish", "thing"]),
    (arcs, "parts", ["arcs"]),
    (arcs, "is_closed", ["house", "stand", "rooms"]),
    (arcs, "exchanged", ["arcs", "one", "other"]),
    (hanging, "hung", ["house", "stand", "wish"]),
    (trails, "plan", ["house", "stand", "wish"]),
    (plans, "is_plan", ["house", "thing"]),
    (plans, "plan_holds", ["house", "stand", "wish", "thing"]),
    (plans, "is_least", ["house", "stand", "wish", "thing"]),
    (plans, "length", ["plan"]),
    (plans, "after", ["house", "stand", "plan", "number"]),
    (plans, "deed_at", ["plan", "number"]),
    (plans, "worked", ["house", "plan"]),
    (verdicts, "verdict", ["house", "stand", "wish"]),
    (verdicts, "verdict_holds", ["house", "stand", "wish", "thing"]),
    (leading, "leads", ["house", "stand", "wish"]),
    (leading, "costs", ["house", "stand", "wish", "deed"]),
    (leading, "is_between", ["house", "one", "other", "third"]),
    (leading, "first_towards", ["house", "one", "other"]),
    (changes, "saved", ["house", "stand", "wish", "room", "many"]),
    (changes, "places_for", ["house", "stand", "wish", "number"]),
    (changes, "one_kind", ["house", "stand", "one", "other"]),
    (changes, "one_room", ["house", "stand", "one", "other"]),
    (changes, "without", ["house", "stand", "wish", "rooms"]),
    (changes, "filled", ["house", "stand", "wish"]),
    (texts, "house_text", ["house"]),
    (texts, "stand_text", ["stand"]),
    (texts, "plan_text", ["plan"]),
    (texts, "read_house", ["thing"]),
    (texts, "read_stand", ["house", "thing"]),
    (texts, "read_plan", ["house", "thing"]),
]
# Each class with its methods: what they are handed by its place, and what by its name, with what stands for it.
METHODS = [
    (stores.Store, "__init__", ["house", "stand"], {"most": 60}),
    (stores.Store, "carry", ["kind", "here", "there", "many"], {}),
    (stores.Store, "bring", ["kind", "room", "many"], {}),
    (stores.Store, "take", ["kind", "room", "many"], {}),
    (stores.Store, "widen", ["room", "many"], {}),
    (stores.Store, "narrow", ["room", "many"], {}),
    (stores.Store, "lock", ["room"], {}),
    (stores.Store, "unlock", ["room"], {}),
    (stores.Store, "wish", ["name", "stand"], {}),
    (stores.Store, "drop", ["name"], {}),
    (stores.Store, "back", [], {}),
    (stores.Store, "house", [], {"at": None}),
    (stores.Store, "stand", [], {"at": None}),
    (stores.Store, "locked", [], {"at": None}),
    (stores.Store, "wishes", [], {"at": None}),
    (stores.Store, "wished", ["name"], {"at": None}),
    (stores.Store, "fewest", ["name"], {"at": None}),
    (stores.Store, "plan", ["name"], {"at": None}),
    (stores.Store, "leads", ["name"], {"at": None}),
    (stores.Store, "tried", ["deeds"], {}),
    (stores.Store, "log", [], {}),
    (stores.Store, "twin", [], {}),
    (stores.Store, "__eq__", ["other"], {}),
    (stores.Store, "__len__", [], {}),
    (stores.Store, "__str__", [], {}),
    (desks.Desk, "__init__", ["store"], {}),
    (desks.Desk, "say", ["row"], {}),
    (desks.Desk, "heard", [], {}),
]


class Interface(unittest.TestCase):

    def test_functions_take_what_is_told_by_its_place(self):
        for module, word, arguments in FUNCTIONS:
            told = inspect.signature(getattr(module, word)).parameters
            self.assertEqual(arguments, list(told), word)
            for argument in told.values():
                self.assertIs(inspect.Parameter.POSITIONAL_OR_KEYWORD, argument.kind, word)
                self.assertIs(inspect.Parameter.empty, argument.default, word)

    def test_methods_stand_in_their_class_and_take_what_is_told(self):
        for cls, word, places, names in METHODS:
            self.assertIn(word, vars(cls))
            told = list(inspect.signature(vars(cls)[word]).parameters.values())[1:]
            by_name = [argument for argument in told if argument.kind is inspect.Parameter.KEYWORD_ONLY]
            self.assertEqual(places, [argument.name for argument in told if argument not in by_name], word)
            self.assertEqual(names, {argument.name: argument.default for argument in by_name}, word)


if __name__ == "__main__":
    unittest.main()
