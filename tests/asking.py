"""What all tests use: asking so that all that holds of every call is looked at, and odd things to hand in."""

import itertools
import unittest

DEEP = ()
for _ in range(19):
    DEEP = (DEEP, 0)


def odd_things():
    """Things of all kinds that are no whole number, a new list each time."""
    return [
        None, True, False, "", "0", "1", "a text\nof two lines", "~" * 5000,
        (), (0,), (1,), (1, 2, 3), ((1,), 1), ((1,), (1,)), DEEP, (None,) * 1000,
        [], [0], [1], [[1], 1], [0, 0, 1], [0] * 1000, {}, {0: 1}, {"kind": 0, "here": (1, [2])},
    ]


def stands_of(house):
    """All stands of a small house."""
    sizes, kinds = house
    rows = [
        [row for row in itertools.product(range(size + 1), repeat=kinds) if sum(row) <= size]
        for size in sizes
    ]
    return list(itertools.product(*rows))


def like_pairs(house):
    """All pairs of a stand and a wish of the same things, of a small house."""
    heaps = {}
    for stand in stands_of(house):
        heaps.setdefault(tuple(map(sum, zip(*stand))), []).append(stand)
    return [pair for heap in heaps.values() for pair in itertools.product(heap, repeat=2)]


def stands_behind(house, stand):
    """The stands behind each deed that can be done, by the words of [6] alone."""
    sizes, kinds = house
    rooms = range(len(sizes))
    for kind, here, there in itertools.product(range(kinds), rooms, rooms):
        if here != there and stand[here][kind] > 0 and sum(stand[there]) < sizes[there]:
            rows = [list(row) for row in stand]
            rows[here][kind] -= 1
            rows[there][kind] += 1
            yield tuple(map(tuple, rows))


def beats_from(house, stand):
    """All stands that any deeds lead to, each with the beat at which it is first come to."""
    beats = {stand: 0}
    front = [stand]
    while front:
        come = []
        for one in front:
            for other in stands_behind(house, one):
                if other not in beats:
                    beats[other] = beats[one] + 1
                    come.append(other)
        front = come
    return beats


def grown(chance, house, most, stands):
    """So many stands of a house that have the same things, at most so many, as a seeded chance tells."""
    sizes, kinds = house
    told = []
    bag = [chance.randrange(kinds) for _ in range(min(most, sum(sizes)))]
    for _ in range(stands):
        spots = [room for room, size in enumerate(sizes) for _ in range(size)]
        chance.shuffle(spots)
        rows = [[0] * kinds for _ in sizes]
        for kind, room in zip(bag, spots):
            rows[room][kind] += 1
        told.append(tuple(map(tuple, rows)))
    return tuple(told)


def spoilt(thing):
    """What a tuple of tuples and whole numbers comes to where one thing in it is put otherwise."""
    if not isinstance(thing, tuple):
        return [None, str(thing), [thing], (thing,), {thing: thing}, True, False, 10 ** 59, -1, -(10 ** 59)]
    told = [None, True, 1, "", list(thing), dict(enumerate(thing)), (thing,), [thing]]
    told += [thing + (0,), thing + thing[-1:], thing[:-1], thing[1:], ()]
    for at, part in enumerate(thing):
        told += [thing[:at] + (other,) + thing[at + 1:] for other in spoilt(part)]
    return told


class Asking(unittest.TestCase):
    """Looks at each call for what [2] promises of all: told apart by repr, for True == 1 and 1 == True."""

    def ask(self, function, *handed):
        ahead = repr(handed)
        told = function(*handed)
        self.assertEqual(ahead, repr(handed), "what was handed in is changed")
        self.assertEqual(repr(told), repr(function(*handed)), "asked twice, answered otherwise")
        self.assert_plain(told)
        return told

    def assert_plain(self, told):
        self.assertIn(type(told), (tuple, str, int, bool, type(None)))
        if isinstance(told, tuple):
            for part in told:
                self.assert_plain(part)

    def assert_tells(self, wanted, function, *handed):
        self.assertEqual(repr(wanted), repr(self.ask(function, *handed)), repr(handed)[:300])

    def assert_refuses(self, error, field, worth, function, *handed):
        ahead = repr(handed)
        for _ in range(2):
            with self.assertRaises(error) as caught:
                function(*handed)
            self.assertIs(type(caught.exception), error)
            if field is None:
                self.assertEqual({}, vars(caught.exception))
            else:
                self.assertIs(getattr(caught.exception, field), worth)
            self.assertEqual(ahead, repr(handed), "what was handed in is changed")
