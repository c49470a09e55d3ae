"""A store by the words of [28] to [31], in a plain way: all is copied and nothing is shared with the program."""

import copy
import re

from asking import GREAT, beats_from
from fullrooms import errors

TAKES = {
    "carry": ("kind", "here", "there", "many"), "bring": ("kind", "room", "many"), "take": ("kind", "room", "many"),
    "widen": ("room", "many"), "narrow": ("room", "many"), "lock": ("room",), "unlock": ("room",),
    "wish": ("name", "stand"), "drop": ("name",),
}


def is_number(thing, low, high):
    return type(thing) is int and low <= thing <= high


class Model:

    def __init__(self, house, stand, most=60):
        self.sizes = list(house[0])
        self.kinds = house[1]
        self.rooms = [list(row) for row in stand]
        self.locks = set()
        self.wishes = {}
        self.most = most
        self.past = []
        self.log = []

    def told(self):
        """House, stand, locked rooms and wishes, as a store tells them."""
        wishes = tuple(sorted(self.wishes.items()))
        stand = tuple(tuple(row) for row in self.rooms)
        return ((tuple(self.sizes), self.kinds), stand, tuple(sorted(self.locks)), wishes)

    def fits(self, thing):
        """Whether anything is a stand of the house as it is now."""
        if type(thing) is not tuple or len(thing) != len(self.sizes):
            return False
        for row, size in zip(thing, self.sizes):
            if type(row) is not tuple or len(row) != self.kinds:
                return False
            if not all(is_number(many, 0, size) for many in row) or sum(row) > size:
                return False
        return True

    def due(self, word, handed):
        """The refusals that are due, in the document's order, as (class name, field); right up to the first alone."""
        told = dict(zip(TAKES[word], handed))
        rooms = [told[key] for key in ("here", "there", "room") if key in told]
        if len(self.past) >= self.most:
            yield "TooMany", self.most
        if "kind" in told and not is_number(told["kind"], 0, self.kinds - 1):
            yield "NoKind", told["kind"]
        for room in rooms:
            if not is_number(room, 0, len(self.sizes) - 1):
                yield "NoRoom", room
        if "here" in told and told["here"] == told["there"]:
            yield "NoRoom", told["there"]
        if "many" in told and not is_number(told["many"], 1, GREAT):
            yield "NoNumber", told["many"]
        if "name" in told and not (type(told["name"]) is str and re.fullmatch("[a-z]{1,8}", told["name"])):
            yield "NoName", told["name"]
        if word == "drop" and told["name"] not in self.wishes:
            yield "NoName", told["name"]
        for room in rooms:
            if word != "unlock" and room in self.locks:
                yield "Locked", room
        if word == "unlock" and told["room"] not in self.locks:
            yield "Open", told["room"]
        if word == "wish" and not self.fits(told["stand"]):
            yield "BadStand", None
        yield from self.due_by_amount(word, told)

    def due_by_amount(self, word, told):
        """The refusals that hang on how many things and places there are."""
        if word == "carry":
            held = self.rooms[told["here"]][told["kind"]]
            free = self.sizes[told["there"]] - sum(self.rooms[told["there"]])
            for done in range(min(told["many"], held, free), min(told["many"], min(held, free) + 1)):
                # The first deed that can't be done, where Lacks is ahead of Full.
                yield ("Lacks", told["here"]) if held == done else ("Full", told["there"])
        if word == "take" and self.rooms[told["room"]][told["kind"]] < told["many"]:
            yield "Lacks", told["room"]
        if word == "bring" and self.sizes[told["room"]] - sum(self.rooms[told["room"]]) < told["many"]:
            yield "Full", told["room"]
        if word == "narrow" and self.sizes[told["room"]] - told["many"] < max(1, sum(self.rooms[told["room"]])):
            yield "Full", told["room"]
        if word == "widen" and self.sizes[told["room"]] + told["many"] > GREAT:
            yield "TooGreat", None

    def refusal(self, word, handed):
        """The refusal that is due first; None without such."""
        return next(self.due(word, handed), None)

    def do(self, word, handed):
        """Do a deed that is not refused."""
        ahead = copy.deepcopy((self.sizes, self.rooms, self.locks, self.wishes))
        told = dict(zip(TAKES[word], handed))
        room = told.get("room")
        if word == "carry":
            self.rooms[told["here"]][told["kind"]] -= told["many"]
            self.rooms[told["there"]][told["kind"]] += told["many"]
        if word in ("bring", "take"):
            self.rooms[room][told["kind"]] += told["many"] if word == "bring" else -told["many"]
        if word in ("widen", "narrow"):
            self.sizes[room] += told["many"] if word == "widen" else -told["many"]
        if word in ("lock", "unlock"):
            self.locks ^= {room}
        if word == "wish":
            self.wishes[told["name"]] = told["stand"]
        if word == "drop":
            del self.wishes[told["name"]]
        self.past.append(ahead)

    def back(self):
        self.sizes, self.rooms, self.locks, self.wishes = self.past.pop()

    def moments(self):
        """What is told behind the first so many deeds that stand, from none to all."""
        other = copy.deepcopy(self)
        rows = [other.told()]
        while other.past:
            other.back()
            rows.append(other.told())
        return rows[::-1]


def refusal_of_way(told, name):
    """What [30] refuses of fewest, plan and leads, as (class name, field); None without such."""
    (sizes, kinds), stand, locked, wishes = told
    wishes = dict(wishes)
    if type(name) is not str or name not in wishes:
        return "NoName", name
    wish = wishes[name]
    if any(sum(row) > size for row, size in zip(wish, sizes)):
        return "BadStand", None
    for kind in range(kinds):
        if sum(row[kind] for row in stand) != sum(row[kind] for row in wish):
            return "Unlike", kind
    for room in locked:
        if stand[room] != wish[room]:
            return "Needed", room
    free = [size - sum(row) for room, (size, row) in enumerate(zip(sizes, stand)) if room not in locked]
    if stand != wish and not any(free):
        return "NoPlace", None
    return None


def locked_beats(told, start):
    """All stands that deeds lead to from a start, of a small house, where locked rooms neither give nor take."""
    (sizes, kinds), stand, locked, wishes = told
    rooms = [room for room in range(len(sizes)) if room not in locked]
    within = beats_from((tuple(sizes[room] for room in rooms), kinds), tuple(start[room] for room in rooms))
    beats = {}
    for rows, beat in within.items():
        whole = list(start)
        for room, row in zip(rooms, rows):
            whole[room] = row
        beats[tuple(whole)] = beat
    return beats


def class_of(word):
    return getattr(errors, word)


def field_of(error):
    """A refusal's field; None without one."""
    return next(iter(vars(error).values()), None)
