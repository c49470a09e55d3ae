"""The refusals: the interface's row for errors."""

import inspect
import unittest

from asking import odd_things
from fullrooms import errors

FIELDS = {
    "BadHouse": None, "BadStand": None, "NoKind": "kind", "NoRoom": "room", "NoNumber": "number",
    "Lacks": "room", "Full": "room", "Unlike": "kind", "NoPlace": None, "NoArc": "arc", "TooGreat": None,
    "Needed": "room", "NoName": "name", "Locked": "room", "Open": "room", "TooMany": "most",
    "NothingBack": None, "NoMoment": "at", "NoDeeds": None, "Broken": "at", "BadText": "row",
}


def made(word):
    """A refusal of that name."""
    error = getattr(errors, word)
    return error() if FIELDS[word] is None else error(3)


class Errors(unittest.TestCase):

    def test_room_error_is_straight_under_value_error(self):
        self.assertEqual((ValueError,), errors.RoomError.__bases__)

    def test_each_is_straight_under_room_error(self):
        for word in FIELDS:
            self.assertEqual((errors.RoomError,), getattr(errors, word).__bases__, word)
            self.assertIsInstance(made(word), errors.RoomError)
            self.assertIsInstance(made(word), ValueError)

    def test_each_is_none_of_the_others(self):
        for word in FIELDS:
            for other in FIELDS:
                self.assertEqual(word == other, isinstance(made(word), getattr(errors, other)), (word, other))

    def test_each_has_its_name_and_no_other_is_there(self):
        for word in FIELDS:
            self.assertEqual(word, getattr(errors, word).__name__)
        there = [word for word in dir(errors) if isinstance(getattr(errors, word), type)]
        self.assertEqual(sorted([*FIELDS, "RoomError"]), sorted(there))

    def test_fields_are_as_handed_in(self):
        for word, field in FIELDS.items():
            if field is None:
                self.assertEqual({}, vars(made(word)), word)
                continue
            for thing in [0, 7, -1, 10 ** 59, *odd_things()]:
                ahead = repr(thing)
                told = getattr(errors, word)(thing)
                self.assertIs(thing, getattr(told, field), word)
                self.assertEqual([field], list(vars(told)), word)
                self.assertEqual(ahead, repr(thing))

    def test_each_takes_its_field_alone(self):
        for word, field in FIELDS.items():
            if field is not None:
                self.assertEqual([field], list(inspect.signature(getattr(errors, word)).parameters), word)

    def test_each_is_caught_as_what_it_is(self):
        for word in FIELDS:
            for error in (getattr(errors, word), errors.RoomError, ValueError):
                with self.assertRaises(error):
                    raise made(word)


if __name__ == "__main__":
    unittest.main()
