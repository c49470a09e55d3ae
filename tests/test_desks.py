"""Desks: rows that are said, and their answers [33]."""

import random
import re
import unittest

from asking import GREAT, odd_things, shut_task
from fullrooms.desks import Desk
from fullrooms.errors import RoomError
from fullrooms.stores import Store
from test_stores import HOUSE, STAND, WISH, Storing, told_by

NUMBER = "(?:0|[1-9][0-9]{0,12})"
NAME = "[a-z]{1,8}"
ROOM_WORD = f"{NUMBER}(?:,{NUMBER})*"
FORMS = {
    "carry": f" {NUMBER}" * 4, "bring": f" {NUMBER}" * 3, "take": f" {NUMBER}" * 3, "widen": f" {NUMBER}" * 2,
    "narrow": f" {NUMBER}" * 2, "lock": f" {NUMBER}", "unlock": f" {NUMBER}", "back": "", "stand": "", "house": "",
    "wishes": "", "drop": f" {NAME}", "fewest": f" {NAME}", "leads": f" {NAME}",
    "wish": f" {NAME} {ROOM_WORD}(?: {ROOM_WORD})*",
}
WISH_TEXT = "1,1 1,1 1,1 0,1"


def stand_told(stand):
    return " ".join(",".join(map(str, row)) for row in stand)


def answered(store, row):
    """The answer to anything by the words of [33], by the store's own methods."""
    word = row.split(" ")[0] if isinstance(row, str) else None
    if word not in FORMS or not re.fullmatch(word + FORMS[word], row):
        return "no row"
    handed = [int(one) if one.isdigit() else one for one in row.split(" ")[1:]]
    try:
        if word == "stand":
            return stand_told(store.stand())
        if word == "house":
            return f"house {store.house()[1]} kinds, sizes " + " ".join(map(str, store.house()[0]))
        if word == "wishes":
            return " ".join(store.wishes()) or "-"
        if word == "fewest":
            return str(store.fewest(*handed))
        if word == "leads":
            return ", ".join("{} from {} to {}".format(*deed) for deed in store.leads(*handed)) or "-"
        if word == "wish":
            rows = tuple(tuple(map(int, str(one).split(","))) for one in row.split(" ")[2:])
            store.wish(handed[0], rows)
        else:
            getattr(store, word)(*handed)
    except RoomError as refusal:
        return "no " + type(refusal).__name__
    return "done"


def bent(row):
    """Rows that are all but that one."""
    told = [row[:at] + row[at + 1:] for at in range(len(row))]
    for at in range(len(row) + 1):
        told += [row[:at] + sign + row[at:] for sign in " 0,a\n"]
    return [*told, row.upper(), row + " 1", row + "\n", "\n" + row, row.replace(" ", "  "), row.replace(" ", "\n")]


class Speaking(Storing):

    def say(self, answer, desk, row):
        """Say a row, and see it answered so."""
        self.assertEqual(repr(answer), repr(desk.say(row)), row)
        self.assertEqual((row, answer), desk.heard()[-1])

    def no_row(self, desk, row):
        """Say what is no row, which the store hears nothing of."""
        ahead = repr((told_by(desk.store), desk.store.log(), len(desk.store), row))
        heard = desk.heard()
        self.assertEqual("no row", desk.say(row), repr(row)[:200])
        self.assertEqual(ahead, repr((told_by(desk.store), desk.store.log(), len(desk.store), row)))
        self.assertEqual(heard + ((row, "no row"),) if isinstance(row, str) else heard, desk.heard())


class Said(Speaking):

    def test_each_deed(self):
        desk = Desk(Store(HOUSE, STAND))
        for row, stand in [
            ("carry 0 0 2 1", "1,1 1,2 1,1 0,0"), ("bring 1 2 2", "1,1 1,2 1,3 0,0"), ("take 0 0 1", "0,1 1,2 1,3 0,0"),
            ("widen 3 4", "0,1 1,2 1,3 0,0"), ("narrow 0 2", "0,1 1,2 1,3 0,0"), ("lock 1", "0,1 1,2 1,3 0,0"),
            ("unlock 1", "0,1 1,2 1,3 0,0"), ("wish even 0,1 1,2 1,3 0,0", "0,1 1,2 1,3 0,0"),
            ("drop even", "0,1 1,2 1,3 0,0"), ("back", "0,1 1,2 1,3 0,0"),
        ]:
            self.say("done", desk, row)
            self.say(stand, desk, "stand")
        self.assertEqual(((2, 3, 5, 5), 2), desk.store.house())
        self.assertEqual(("even",), desk.store.wishes())
        self.assertEqual(8, len(desk.store))

    def test_each_question(self):
        desk = Desk(Store(((2, 2, 3), 2), ((2, 0), (0, 2), (1, 0))))
        self.say("2,0 0,2 1,0", desk, "stand")
        self.say("house 2 kinds, sizes 2 2 3", desk, "house")
        self.say("-", desk, "wishes")
        self.say("done", desk, "wish even 1,1 1,1 1,0")
        self.say("done", desk, "wish b 2,0 0,2 1,0")
        self.say("b even", desk, "wishes")
        self.say("3", desk, "fewest even")
        self.say("0 from 0 to 2, 1 from 1 to 2", desk, "leads even")
        self.say("0", desk, "fewest b")
        self.say("-", desk, "leads b")
        self.say("done", desk, "carry 0 0 2 1")
        self.say("1 from 1 to 0", desk, "leads even")

    def test_one_kind(self):
        desk = Desk(Store(((2, 3), 1), ((2,), (0,))))
        self.say("2 0", desk, "stand")
        self.say("house 1 kinds, sizes 2 3", desk, "house")
        self.say("done", desk, "wish w 0 2")
        self.say("2", desk, "fewest w")

    def test_great_numbers(self):
        desk = Desk(Store(((1,), 1), ((0,),)))
        self.say("done", desk, "widen 0 999999999999")
        self.say("done", desk, "bring 0 0 1000000000000")
        self.say("1000000000000", desk, "stand")
        self.say("house 1 kinds, sizes 1000000000000", desk, "house")

    def test_what_the_store_refuses(self):
        desk = Desk(Store(HOUSE, STAND))
        for row, answer in [
            ("back", "no NothingBack"), ("lock 1", "done"), ("carry 2 0 2 1", "no NoKind"),
            ("carry 0 4 2 1", "no NoRoom"),
            ("carry 0 0 0 1", "no NoRoom"), ("carry 0 0 2 0", "no NoNumber"), ("carry 0 0 1 1", "no Locked"),
            ("carry 1 3 0 1", "no Lacks"), ("carry 0 0 3 2", "no Full"), ("bring 0 0 2", "no Full"),
            ("bring 9999999999999 0 2", "no NoKind"), ("take 0 2 1", "no Lacks"),
            ("widen 0 1000000000000", "no TooGreat"),
            ("widen 0 1000000000001", "no NoNumber"), ("widen 9 1", "no NoRoom"), ("narrow 0 2", "no Full"),
            ("lock 1", "no Locked"), ("unlock 0", "no Open"), ("drop some", "no NoName"), ("fewest some", "no NoName"),
            ("leads some", "no NoName"), ("wish w 0,0 1,2 0,0 0,0", "done"), ("fewest w", "no Unlike"),
            ("leads w", "no Unlike"), ("wish w 2,1 0,2 1,1 0,0", "done"),
            ("fewest w", "no Needed"), ("leads w", "no Needed"),
        ]:
            self.say(answer, desk, row)

    def test_no_place_and_a_wish_that_fits_no_more(self):
        desk = Desk(Store(((2, 1), 2), ((1, 0), (0, 1))))
        self.say("done", desk, "wish wide 0,1 1,0")
        self.say("done", desk, "wish wider 1,1 0,0")
        self.say("done", desk, "narrow 0 1")
        for word in ("fewest", "leads"):
            self.say("no NoPlace", desk, f"{word} wide")
            self.say("no BadStand", desk, f"{word} wider")
        self.say("wide wider", desk, "wishes")

    def test_a_stand_by_its_form_alone(self):
        desk = Desk(Store(HOUSE, STAND))
        for text in [
            "0", "0,0", "0,0 0,0", "0,0 0,0 0,0", "0,0 0,0 0,0 0,0 0,0", "0,0 0,0 0,0 0,0,0", "0 0 0 0",
            "5,0 0,0 0,0 0,0",
            "4,0 0,4 0,0 0,0", "9999999999999,0 0,0 0,0 0,0", "0," * 400 + "0", "0 " * 400 + "0", "0,0 0 0,0 0",
        ]:
            self.say("no BadStand", desk, "wish w " + text)
        for text in [
            "", " ", "x", "0,0 0,0 0,0 0,x", "0,0 0,0 0,0 0,", "0,0 0,0 0,0 ,0", "0,0 0,0 0,0 0,,0", "0,0 0,0  0,0 0,0",
            "0,0 0,0 0,0 0,0 ", "00,0 0,0 0,0 0,0", "0,0 0,0 0,0 0,01", "10000000000000,0 0,0 0,0 0,0",
            "-1,0 0,0 0,0 0,0",
            "0;0 0,0 0,0 0,0", "0,0\n0,0 0,0 0,0", "0,0 0,0 0,0 0,0\n", ",", "(0,0)",
        ]:
            self.no_row(desk, "wish w " + text)

    def test_where_most_deeds_stand(self):
        desk = Desk(Store(HOUSE, STAND, most=1))
        self.say("done", desk, "wish w " + WISH_TEXT)
        for row in [
            "wish w " + WISH_TEXT, "wish w 0", "wish v 9,9 9,9", "carry 9 9 9 0", "bring 0 0 0", "take 0 0 0",
            "widen 9 0",
            "narrow 9 0", "lock 9", "unlock 9", "drop none",
        ]:
            self.say("no TooMany", desk, row)
        self.no_row(desk, "wish w x")
        self.no_row(desk, "wish W " + WISH_TEXT)
        self.say("w", desk, "wishes")
        self.say("2", desk, "fewest w")
        self.say("done", desk, "back")
        self.say("no BadStand", desk, "wish w 0")


class NoRow(Speaking):

    def test_things_that_are_no_texts(self):
        desk = Desk(Store(HOUSE, STAND))
        for thing in [0, 1, ("stand",), ["stand"], b"stand", {"stand": 0}]:
            self.no_row(desk, thing)
        for thing in odd_things():
            self.no_row(desk, thing)
        self.assertEqual({str}, {type(row) for row, answer in desk.heard()})

    def test_other_words(self):
        desk = Desk(Store(HOUSE, STAND))
        desk.say("wish w " + WISH_TEXT)
        for row in [
            "", " ", "\n", "x", "Stand", "STAND", "stands", "stan", "locked", "log", "twin", "plan w", "wished w",
            "tried",
            "heard", "say", "store", "free", "do", "house 0", "stand 0", "wishes w", "back 1", "back back",
            "stand house",
            "fewest", "leads", "drop", "wish", "wish w", "lock", "carry", "fewest w w", "leads w 0", "drop w w",
            "no row",
            "done", "fewest w at 1", "carry,0,0,2,1", "stand\n", "stand ", " stand", "\nstand", "stand\t", "-",
        ]:
            self.no_row(desk, row)

    def test_blanks(self):
        desk = Desk(Store(HOUSE, STAND))
        for row in [
            "carry  0 0 2 1", "carry 0 0 2  1", " carry 0 0 2 1", "carry 0 0 2 1 ", "carry 0 0 2\t1", "carry 0 0\n2 1",
        ]:
            self.no_row(desk, row)

    def test_numbers(self):
        desk = Desk(Store(HOUSE, STAND))
        for word in ["00", "01", "-1", "+1", "1.0", "1_0", "", "a", "x1", "1x", "\u0661", "\u00b2", "1" * 14, "0" * 14,
                     "10000000000000", "1" * 4500, "True", "None", "1,0"]:
            self.no_row(desk, f"lock {word}")
            for at in range(4):
                numbers = ["0", "0", "2", "1"]
                numbers[at] = word
                self.no_row(desk, "carry " + " ".join(numbers))
        for numbers in ["", " 0", " 0 0", " 0 0 2", " 0 0 2 1 1"]:
            self.no_row(desk, "carry" + numbers)
        for word, numbers in [("bring", 3), ("take", 3), ("widen", 2), ("narrow", 2), ("lock", 1), ("unlock", 1)]:
            for many in range(6):
                if many != numbers:
                    self.no_row(desk, word + " 1" * many)
        self.say("no NoRoom", desk, "lock 9999999999999")
        self.say("no NoNumber", desk, "widen 0 9999999999999")

    def test_names(self):
        desk = Desk(Store(HOUSE, STAND))
        for name in ["", "A", "aB", "abcdefghi", "a1", "1", "a-b", "a,b", "\u00e4", "a" * 4000, "a_b", "a\n"]:
            for row in [f"drop {name}", f"fewest {name}", f"leads {name}", f"wish {name} {WISH_TEXT}"]:
                self.no_row(desk, row)
        self.say("done", desk, "wish abcdefgh " + WISH_TEXT)
        self.say("done", desk, "wish stand " + WISH_TEXT)
        self.say("abcdefgh stand", desk, "wishes")

    def test_bent_rows(self):
        rows = [
            "carry 0 0 2 1", "bring 1 2 2", "take 0 0 1", "widen 3 10", "narrow 0 1", "lock 1", "unlock 1", "back",
            "stand",
            "house", "wishes", "wish ab " + WISH_TEXT, "drop ab", "fewest ab", "leads ab",
        ]
        for row in rows:
            for other in [row, *bent(row)]:
                desk, store = Desk(Store(HOUSE, STAND)), Store(HOUSE, STAND)
                for one in ["wish ab " + WISH_TEXT, "lock 1", other]:
                    self.say(answered(store, one), desk, one)
                self.assertEqual((told_by(store), store.log()), (told_by(desk.store), desk.store.log()), other)


class Heard(Speaking):

    def test_just_the_rows_that_are_texts(self):
        desk = Desk(Store(HOUSE, STAND))
        self.assertEqual((), desk.heard())
        wanted = []
        for row in ["stand", None, "lock 0", 7, "lock 0", "nothing", ["stand"], "", "back", ("lock", 0), True]:
            answer = desk.say(row)
            if isinstance(row, str):
                wanted.append((row, answer))
            self.assertEqual(tuple(wanted), desk.heard())
            self.assertEqual(tuple(wanted), desk.heard())
        self.assertEqual(("stand", "lock 0", "lock 0", "nothing", "", "back"), tuple(row for row, answer in wanted))
        self.assertEqual(("done", "no Locked", "no row", "no row", "done"), tuple(answer for row, answer in wanted[1:]))

    def test_what_was_told_ahead_stays(self):
        desk = Desk(Store(HOUSE, STAND))
        desk.say("lock 0")
        told = desk.heard()
        desk.say("lock 1")
        self.assertEqual((("lock 0", "done"),), told)

    def test_its_store(self):
        store = Store(HOUSE, STAND)
        self.assertIs(store, Desk(store).store)
        # A store without deeds has no length, and is one nevertheless.
        self.assertEqual("done", Desk(store).say("lock 0"))


class Beside(Speaking):

    def any_row(self, chance):
        """Some row, mostly right."""
        def number():
            return str(chance.choice([0, 0, 1, 1, 2, 2, 3, 4, 9, GREAT, "01"]))

        name = chance.choice(["a", "b", "even", "A"])
        word = chance.choice([*FORMS, "carry", "carry", "other"])
        if word in ("drop", "fewest", "leads"):
            return f"{word} {name}"
        if word == "wish":
            stands = [WISH_TEXT, stand_told(STAND), "1,1 1,2 1,1 0,0", "0", "1,2,x", "9,9"]
            return f"wish {name} " + chance.choice(stands)
        return " ".join([word] + [number() for _ in range(FORMS.get(word, "").count(" "))])

    def test_a_store_that_is_led_by_the_same_deeds(self):
        chance = random.Random(1)
        for _ in range(150):
            most = chance.choice([2, 8, 60])
            desk, store = Desk(Store(HOUSE, STAND, most=most)), Store(HOUSE, STAND, most=most)
            for _ in range(30):
                row = self.any_row(chance)
                self.say(answered(store, row), desk, row)
                self.assertEqual(told_by(store), told_by(desk.store))
            self.assertEqual((store, store.log(), len(store)), (desk.store, desk.store.log(), len(desk.store)))

    def test_two_desks_over_one_store(self):
        store = Store(HOUSE, STAND)
        one, other = Desk(store), Desk(store)
        self.say("done", one, "lock 0")
        self.say("no Locked", other, "lock 0")
        self.say("done", other, "back")
        self.say("no NothingBack", one, "back")
        self.assertEqual((("lock 0", "done"), ("back", "no NothingBack")), one.heard())
        self.assertEqual((("lock 0", "no Locked"), ("back", "done")), other.heard())
        self.assertEqual(4, len(store.log()))

    def test_a_twins_desk(self):
        store = Store(HOUSE, STAND)
        desk = Desk(store)
        desk.say("lock 0")
        other = Desk(store.twin())
        self.assertEqual((), other.heard())
        self.say("no Locked", other, "lock 0")
        self.say("done", other, "unlock 0")
        self.say("no Locked", desk, "lock 0")
        self.assertEqual(((0,), ()), (store.locked(), other.store.locked()))

    def test_deeds_that_the_store_does_itself_are_not_heard(self):
        store = Store(HOUSE, STAND)
        desk = Desk(store)
        store.tried([("lock", 0), ("lock", 1)])
        self.assertEqual((), desk.heard())
        self.say("done", desk, "back")
        self.assertEqual((0,), store.locked())

    def test_plans_said_carry_by_carry_and_taken_back(self):
        chance = random.Random(2)
        for _ in range(60):
            house, stand, wish = shut_task(chance, GREAT)
            desk = Desk(Store(house, stand, most=10 ** 6))
            self.say("done", desk, "wish w " + stand_told(wish))
            if desk.store.fewest("w") > 200:
                house, stand, wish = shut_task(chance, 3)
                desk = Desk(Store(house, stand, most=10 ** 6))
                self.say("done", desk, "wish w " + stand_told(wish))
            for left in range(int(desk.say("fewest w")), 0, -1):
                self.say(str(left), desk, "fewest w")
                first = desk.say("leads w").split(", ")[0]
                kind, here, there = first.split(" ")[::2]
                self.say("done", desk, f"carry {kind} {here} {there} 1")
            self.say("-", desk, "leads w")
            self.say(stand_told(wish), desk, "stand")
            while len(desk.store) > 1:
                self.say("done", desk, "back")
            self.say(stand_told(stand), desk, "stand")

    def test_rows_of_a_plan_said_at_once_where_each_is_of_one_deed(self):
        desk = Desk(Store(((GREAT, GREAT), 1), ((GREAT,), (0,))))
        self.say("done", desk, f"wish w 0 {GREAT}")
        self.say(str(GREAT), desk, "fewest w")
        for many, deeds in desk.store.plan("w"):
            for kind, here, there in deeds:
                self.say("done", desk, f"carry {kind} {here} {there} {many}")
        self.say(f"0 {GREAT}", desk, "stand")


if __name__ == "__main__":
    unittest.main()
