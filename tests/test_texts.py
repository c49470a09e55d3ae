"""Texts of houses, stands and plans, there and back [32]."""

import random
import unittest

from asking import GREAT, SMALL, Asking, great_task, odd_things, shut_task, stands_of
from fullrooms.errors import BadText
from fullrooms.texts import house_text, plan_text, read_house, read_plan, read_stand, stand_text
from fullrooms.trails import plan

HOUSE = ((5, 10, 2), 3)
STAND = ((3, 0, 1), (0, 1, 9), (2, 0, 0))
PLAN = ((5, ((0, 1, 2), (1, 2, 0))), (1, ((2, 0, 1),)))
TEXT = "5 times: 0 from 1 to 2, 1 from 2 to 0\n1 times: 2 from 0 to 1\n"
NO_TEXTS = [0, 1, 10 ** 59, b"house", *[thing for thing in odd_things() if not isinstance(thing, str)]]


def bent(text):
    """Texts that are all but that one: a sign more, less or otherwise at each place."""
    told = [text[:at] + text[at + 1:] for at in range(len(text))]
    for at in range(len(text) + 1):
        told += [text[:at] + sign + text[at:] for sign in " 0,-\nx"]
        told += [text[:at] + sign + text[at + 1:] for sign in " 0,\nX9~"]
    return [other for other in told if other != text]


class Refusing(Asking):

    def assert_bad(self, row, function, *handed):
        ahead = repr(handed)
        for _ in range(2):
            with self.assertRaises(BadText) as caught:
                function(*handed)
            self.assertIs(BadText, type(caught.exception))
            self.assertEqual(repr(row), repr(caught.exception.row), repr(handed)[:300])
        self.assertEqual(ahead, repr(handed))

    def assert_bent(self, function, write, text):
        """All but that text is refused, or is the text of something else."""
        read = 0
        for other in bent(text):
            try:
                told = function(other)
            except BadText:
                continue
            self.assertEqual(other, write(told))
            read += 1
        self.assertGreater(read, 0)


class Houses(Refusing):

    def test_as_told(self):
        self.assert_tells("house 3 kinds, sizes 5 10 2", house_text, HOUSE)
        self.assert_tells("house 1 kinds, sizes 1", house_text, ((1,), 1))
        self.assert_tells("house 6 kinds, sizes 1000000000000 1", house_text, ((GREAT, 1), 6))

    def test_there_and_back(self):
        for house in [HOUSE, ((1,), 1), ((GREAT,) * 8, 6), *SMALL]:
            self.assert_tells(house, read_house, house_text(house))

    def test_no_text(self):
        for thing in NO_TEXTS:
            self.assert_bad(None, read_house, thing)

    def test_bad_lines(self):
        for text in [
            "", " ", "\n", "house", "house 3 kinds, sizes", "house 3 kinds, sizes ", "house 3 kinds, sizes 5 10 2 ",
            " house 3 kinds, sizes 5", "house  3 kinds, sizes 5", "house 3 kinds sizes 5", "house 3 kind, sizes 5",
            "house 3 kinds, size 5", "House 3 kinds, sizes 5", "house 03 kinds, sizes 5", "house 3 kinds, sizes 05",
            "house 3 kinds, sizes 0", "house 3 kinds, sizes 5 0", "house 0 kinds, sizes 5", "house 7 kinds, sizes 5",
            "house 3 kinds, sizes 1000000000001", "house 3 kinds, sizes 10000000000000", "house 3 kinds, sizes -5",
            "house 3 kinds, sizes +5", "house 3 kinds, sizes 5_0", "house 3 kinds, sizes 5,10",
            "house 3 kinds, sizes 5\n",
            "house 3 kinds, sizes 5\nhouse 3 kinds, sizes 5", "\nhouse 3 kinds, sizes 5", "house 3 kinds,  sizes 5",
            "house 3 kinds, sizes 1 1 1 1 1 1 1 1 1", "house 3 kinds, sizes 5 5.0", "house three kinds, sizes 5",
            "house 3 kinds, sizes 5\t6", "house 3 kinds, sizes \u0665", "house 3 kinds, sizes \u00b2", "house 3",
        ]:
            self.assert_bad(0, read_house, text)
        for thing in odd_things():
            if isinstance(thing, str):
                self.assert_bad(0, read_house, thing)

    def test_bent(self):
        self.assert_bent(read_house, house_text, house_text(HOUSE))

    def test_very_long(self):
        for text in [
            "9" * 10 ** 6, "house 3 kinds, sizes " + "9" * 10 ** 6, "house " + "0" * 10 ** 6 + "3 kinds, sizes 5",
            "house 3 kinds, sizes" + " 5" * 10 ** 5, " " * 10 ** 5, "\n" * 10 ** 6,
        ]:
            self.assert_bad(0, read_house, text)


class Stands(Refusing):

    def test_as_told(self):
        self.assert_tells("3,0 0,1 2,2", stand_text, ((3, 0), (0, 1), (2, 2)))
        self.assert_tells("3 0 2", stand_text, ((3,), (0,), (2,)))
        self.assert_tells("1000000000000,0", stand_text, ((GREAT, 0),))

    def test_there_and_back(self):
        for house in SMALL:
            for stand in stands_of(house):
                self.assert_tells(stand, read_stand, house, stand_text(stand))
        chance = random.Random(1)
        for _ in range(50):
            house, stand, wish = great_task(chance)
            self.assert_tells(stand, read_stand, house, stand_text(stand))

    def test_no_text(self):
        for thing in [*NO_TEXTS, STAND]:
            self.assert_bad(None, read_stand, HOUSE, thing)

    def test_bad_lines(self):
        for text in [
            "", " ", "\n", "3,0,1", "3,0,1 0,1,9", "3,0,1 0,1,9 2,0,0 0,0,0", "3,0,1 0,1,9 2,0", "3,0,1 0,1,9 2,0,0,0",
            "3,0,1 0,1,9 2,0,0 ", " 3,0,1 0,1,9 2,0,0", "3,0,1  0,1,9 2,0,0", "3,0,1 0,1,9 2,0,0\n",
            "3,0,1\n0,1,9 2,0,0",
            "3,0,01 0,1,9 2,0,0", "3,00,1 0,1,9 2,0,0", "3,,1 0,1,9 2,0,0", ",3,0,1 0,1,9 2,0,0", "3,0,1, 0,1,9 2,0,0",
            "3, 0,1 0,1,9 2,0,0", "-3,0,1 0,1,9 2,0,0", "3,0,a 0,1,9 2,0,0", "3;0;1 0,1,9 2,0,0", "3,0,3 0,1,9 2,0,0",
            "6,0,0 0,1,9 2,0,0", "3,0,1 0,1,10 2,0,0", "3 0 2", "3,0,10000000000000 0,1,9 2,0,0",
        ]:
            self.assert_bad(0, read_stand, HOUSE, text)

    def test_another_houses_stand(self):
        self.assert_tells(((3, 0), (0, 1), (2, 2)), read_stand, ((3, 1, 4), 2), "3,0 0,1 2,2")
        for house in [((3, 1, 3), 2), ((2, 1, 4), 2), ((3, 1), 2), ((3, 1, 4, 1), 2), ((3, 1, 4), 1), ((3, 1, 4), 3)]:
            self.assert_bad(0, read_stand, house, "3,0 0,1 2,2")

    def test_one_kind(self):
        self.assert_tells(((3,), (0,), (2,)), read_stand, ((3, 1, 4), 1), "3 0 2")
        self.assert_bad(0, read_stand, ((3, 1, 4), 1), "3,0 0,1 2,2")

    def test_bent(self):
        self.assert_bent(lambda text: read_stand(HOUSE, text), stand_text, stand_text(STAND))

    def test_very_long(self):
        for text in ["9" * 10 ** 6, "0," * 10 ** 5, "0 " * 10 ** 5, "0,0,0 0,0,0 " + "0" * 10 ** 6, " " * 10 ** 5]:
            self.assert_bad(0, read_stand, HOUSE, text)


class Plans(Refusing):

    def test_as_told(self):
        self.assert_tells("", plan_text, ())
        self.assert_tells("5 times: 0 from 1 to 2, 1 from 2 to 0\n", plan_text, PLAN[:1])
        self.assert_tells(TEXT, plan_text, PLAN)
        self.assert_tells("1000000000000 times: 0 from 7 to 6\n", plan_text, ((GREAT, ((0, 7, 6),)),))

    def test_there_and_back(self):
        self.assert_tells((), read_plan, HOUSE, "")
        self.assert_tells(PLAN, read_plan, HOUSE, TEXT)
        chance = random.Random(2)
        for _ in range(50):
            for house, stand, wish in (great_task(chance), shut_task(chance, 3)):
                told = plan(house, stand, wish)
                self.assert_tells(told, read_plan, house, plan_text(told))

    def test_by_its_form_alone(self):
        # No house has so much that this could be done.
        told = ((GREAT, ((0, 0, 1),) * 20),) * 600
        self.assert_tells(told, read_plan, HOUSE, plan_text(told))

    def test_no_text(self):
        for thing in [*NO_TEXTS, PLAN]:
            self.assert_bad(None, read_plan, HOUSE, thing)

    def test_rows_beyond(self):
        line = "1 times: 0 from 0 to 1\n"
        self.assert_tells(((1, ((0, 0, 1),)),) * 600, read_plan, HOUSE, line * 600)
        self.assert_bad(600, read_plan, HOUSE, line * 601)
        self.assert_bad(600, read_plan, HOUSE, line * 700)
        self.assert_bad(600, read_plan, HOUSE, line * 600 + "x")
        self.assert_bad(600, read_plan, HOUSE, line * 600 + "\n")
        self.assert_bad(599, read_plan, HOUSE, line * 599 + "x\n" + line * 9)
        self.assert_bad(600, read_plan, HOUSE, line * 600 + line[:-1])

    def test_deeds_beyond(self):
        deed = "0 from 0 to 1"
        good = "1 times: " + ", ".join([deed] * 20) + "\n"
        self.assert_tells(((1, ((0, 0, 1),) * 20),), read_plan, HOUSE, good)
        self.assert_bad(0, read_plan, HOUSE, "1 times: " + ", ".join([deed] * 21) + "\n")
        self.assert_bad(1, read_plan, HOUSE, good + "1 times: " + ", ".join([deed] * 21) + "\n")

    def test_behind_the_last_line_feed(self):
        self.assert_bad(0, read_plan, HOUSE, "x")
        self.assert_bad(0, read_plan, HOUSE, " ")
        self.assert_bad(0, read_plan, HOUSE, "1 times: 0 from 0 to 1")
        self.assert_bad(2, read_plan, HOUSE, TEXT + "x")
        self.assert_bad(2, read_plan, HOUSE, TEXT + " ")
        self.assert_bad(1, read_plan, HOUSE, TEXT[:-1])
        self.assert_bad(2, read_plan, HOUSE, TEXT + TEXT[:10])

    def test_empty_lines(self):
        self.assert_bad(0, read_plan, HOUSE, "\n")
        self.assert_bad(0, read_plan, HOUSE, "\n" + TEXT)
        self.assert_bad(2, read_plan, HOUSE, TEXT + "\n")
        self.assert_bad(1, read_plan, HOUSE, TEXT.replace("\n", "\n\n"))

    def test_the_first_bad_line(self):
        for line in [
            "", " ", "x", "5", "5 times", "5 times:", "5 times: ", "times: 0 from 0 to 1", " times: 0 from 0 to 1",
            "5 time: 0 from 0 to 1", "5  times: 0 from 0 to 1", "5 times:  0 from 0 to 1", "5 times:0 from 0 to 1",
            "05 times: 0 from 0 to 1", "5 times: 00 from 0 to 1", "5 times: 0 from 00 to 1", "5 times: 0 from 0 to 01",
            "0 times: 0 from 0 to 1", "1000000000001 times: 0 from 0 to 1", "10000000000000 times: 0 from 0 to 1",
            "-1 times: 0 from 0 to 1", "5 times: 3 from 0 to 1", "5 times: 0 from 3 to 1", "5 times: 0 from 0 to 3",
            "5 times: 0 from 1 to 1", "5 times: 0 to 1 from 2", "5 times: 0 From 0 to 1", "5 times: 0 from 0 to 1 ",
            " 5 times: 0 from 0 to 1", "5 times: 0 from 0 to 1,", "5 times: 0 from 0 to 1, ",
            "5 times: , 0 from 0 to 1",
            "5 times: 0 from 0 to 1,1 from 0 to 1", "5 times: 0 from 0 to 1,  1 from 0 to 1", "5 times: 0 from 0  to 1",
            "5 times: 5 times: 0 from 0 to 1", "5 times: 0 from 0 to 1 2", "5 times: 0 from 0", "5 times: from 0 to 1",
            "5 times: 0 from 0 to 1; 1 from 0 to 1", "5 times: 0 from 0 to -1", "5 times: 0 from 0 to x", "5\ttimes: 0",
        ]:
            self.assert_bad(0, read_plan, HOUSE, line + "\n")
            self.assert_bad(2, read_plan, HOUSE, TEXT + line + "\n" + TEXT)
            self.assert_bad(1, read_plan, HOUSE, TEXT.split("\n")[0] + "\n" + line + "\n" + "bad\n")

    def test_kinds_and_rooms_of_the_house(self):
        text = "1 times: 1 from 0 to 2\n"
        self.assert_tells(((1, ((1, 0, 2),)),), read_plan, ((1, 1, 1), 2), text)
        for house in [((1, 1), 2), ((1, 1, 1), 1), ((1,), 6)]:
            self.assert_bad(0, read_plan, house, text)

    def test_bent(self):
        self.assert_bent(lambda text: read_plan(HOUSE, text), plan_text, TEXT)

    def test_very_long(self):
        self.assert_bad(0, read_plan, HOUSE, "9" * 10 ** 6)
        self.assert_bad(0, read_plan, HOUSE, "1 times: " + "0 from 0 to 1, " * 10 ** 5 + "\n")
        self.assert_bad(0, read_plan, HOUSE, "9" * 10 ** 6 + " times: 0 from 0 to 1\n")
        self.assert_bad(600, read_plan, HOUSE, "1 times: 0 from 0 to 1\n" * 10 ** 5)
        self.assert_bad(1, read_plan, HOUSE, "1 times: 0 from 0 to 1\n" + "\n" * 10 ** 6)


if __name__ == "__main__":
    unittest.main()
