"""The interface's names and arguments, as the document writes them."""

import inspect
import unittest

from fullrooms import arcs, fewest, hanging, houses, papers, pieces, wholes

FUNCTIONS = [
    (wholes, "is_whole", ["thing"]),
    (wholes, "is_from", ["thing", "low", "high"]),
    (houses, "is_house", ["thing"]),
    (houses, "is_stand", ["house", "thing"]),
    (houses, "is_deed", ["house", "thing"]),
    (houses, "places", ["house", "stand"]),
    (houses, "things", ["stand"]),
    (houses, "moved", ["house", "stand", "deed"]),
    (houses, "moved_many", ["house", "stand", "deed", "many"]),
    (houses, "deeds_at", ["house", "stand"]),
    (pieces, "amiss", ["stand", "wish"]),
    (pieces, "too_many", ["stand", "wish"]),
    (pieces, "pieces", ["stand", "wish"]),
    (pieces, "is_shut", ["house", "stand", "piece"]),
    (pieces, "shut_pieces", ["house", "stand", "wish"]),
    (fewest, "fewest", ["house", "stand", "wish"]),
    (papers, "none_fewer", ["house", "stand", "wish"]),
    (papers, "none_fewer_holds", ["house", "stand", "wish", "thing"]),
    (papers, "bar_holds", ["house", "stand", "wish", "thing"]),
    (arcs, "matching", ["stand", "wish"]),
    (arcs, "matching_holds", ["stand", "wish", "thing"]),
    (arcs, "parts", ["arcs"]),
    (arcs, "is_closed", ["house", "stand", "rooms"]),
    (arcs, "exchanged", ["arcs", "one", "other"]),
    (hanging, "hung", ["house", "stand", "wish"]),
]


class Interface(unittest.TestCase):

    def test_functions_take_what_is_told_by_its_place(self):
        for module, word, arguments in FUNCTIONS:
            told = inspect.signature(getattr(module, word)).parameters
            self.assertEqual(arguments, list(told), word)
            for argument in told.values():
                self.assertIs(inspect.Parameter.POSITIONAL_OR_KEYWORD, argument.kind, word)
                self.assertIs(inspect.Parameter.empty, argument.default, word)


if __name__ == "__main__":
    unittest.main()
