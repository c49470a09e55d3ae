"""What all tests use: asking so that all that holds of every call is looked at, and odd things to hand in."""

import itertools
import unittest

GREAT = 10 ** 12
SMALL = [
    ((2, 2), 2), ((3, 1), 2), ((1, 2), 3), ((1, 1), 2), ((4, 2), 1),
    ((1, 1, 1), 3), ((2, 1, 1), 2), ((2, 2, 1), 2), ((1, 3, 1), 2), ((2, 2, 2), 1),
    ((1, 1, 1, 1), 4), ((2, 1, 1, 1), 2), ((1, 1, 2, 1), 2), ((1, 2, 1, 2), 1),
]
DEEP = ()
for _ in range(19):
    DEEP = (DEEP, 0)


def odd_things():
    """Things of all kinds that are no whole number, a new list each time."""
    return [
        None, True, False, "", "0", "1", "a text\nof two lines", "~" * 5000,
        (), (0,), (1,), (1, 2, 3), ((1,), 1), ((1,), (1,)), DEEP, (None,) * 1000,
        [], [0], [1], [[1], 1], [0, 0, 1], [0] * 1000, {}, {0: 1}, {"kind": 0, "here": (1, [2])},
    ]


def stands_of(house):
    """All stands of a small house."""
    sizes, kinds = house
    rows = [
        [row for row in itertools.product(range(size + 1), repeat=kinds) if sum(row) <= size]
        for size in sizes
    ]
    return list(itertools.product(*rows))


def like_pairs(house):
    """All pairs of a stand and a wish of the same things, of a small house."""
    heaps = {}
    for stand in stands_of(house):
        heaps.setdefault(tuple(map(sum, zip(*stand))), []).append(stand)
    return [pair for heap in heaps.values() for pair in itertools.product(heap, repeat=2)]


def stands_behind(house, stand):
    """The stands behind each deed that can be done, by the words of [6] alone."""
    sizes, kinds = house
    rooms = range(len(sizes))
    for kind, here, there in itertools.product(range(kinds), rooms, rooms):
        if here != there and stand[here][kind] > 0 and sum(stand[there]) < sizes[there]:
            rows = [list(row) for row in stand]
            rows[here][kind] -= 1
            rows[there][kind] += 1
            yield tuple(map(tuple, rows))


def beats_from(house, stand):
    """All stands that any deeds lead to, each with the beat at which it is first come to."""
    beats = {stand: 0}
    front = [stand]
    while front:
        come = []
        for one in front:
            for other in stands_behind(house, one):
                if other not in beats:
                    beats[other] = beats[one] + 1
                    come.append(other)
        front = come
    return beats


def grown(chance, house, most, stands):
    """So many stands of a house that have the same things, at most so many, as a seeded chance tells."""
    sizes, kinds = house
    told = []
    bag = [chance.randrange(kinds) for _ in range(min(most, sum(sizes)))]
    for _ in range(stands):
        spots = [room for room, size in enumerate(sizes) for _ in range(size)]
        chance.shuffle(spots)
        rows = [[0] * kinds for _ in sizes]
        for kind, room in zip(bag, spots):
            rows[room][kind] += 1
        told.append(tuple(map(tuple, rows)))
    return tuple(told)


def shared_out(chance, sizes, heap):
    """A stand of rooms of these sizes that has just the heap's things, as a seeded chance tells."""
    rows = [[0] * len(heap) for _ in sizes]
    left = list(heap)
    while any(left):
        kind = chance.choice([kind for kind, many in enumerate(left) if many])
        room = chance.choice([room for room, size in enumerate(sizes) if sum(rows[room]) < size])
        many = chance.randrange(min(left[kind], sizes[room] - sum(rows[room]))) + 1
        if chance.randrange(3) == 0:
            many = min(left[kind], sizes[room] - sum(rows[room]))
        rows[room][kind] += many
        left[kind] -= many
    return tuple(map(tuple, rows))


def great_task(chance, most=GREAT, stands=2):
    """A house of up to eight rooms and six kinds, of sizes up to so many, and stands of the same things, not full."""
    sizes = tuple(chance.randrange(most) + 1 for _ in range(chance.randrange(2, 9)))
    kinds = chance.randrange(1, 7)
    cuts = sorted(chance.randrange(sum(sizes)) for _ in range(kinds - 1))
    ends = [0, *cuts, sum(sizes) - chance.choice([1, 1, 1 + chance.randrange(sum(sizes))])]
    heap = [max(0, end - start) for start, end in zip(ends, ends[1:])]
    return ((sizes, kinds), *[shared_out(chance, sizes, heap) for _ in range(stands)])


def shut_task(chance, most=GREAT):
    """A house, a stand and a wish with up to three shut pieces, and a last room that has the only places."""
    rooms, kinds = chance.randrange(3, 9), chance.randrange(2, 7)
    size = chance.randrange(most) + 1
    heaps = chance.randrange(1, 4)
    own_rooms, own_kinds = list(range(rooms - 1)), list(range(kinds))
    chance.shuffle(own_rooms)
    chance.shuffle(own_kinds)
    stand, wish = [[[0] * kinds for _ in range(rooms)] for _ in range(2)]
    for at in range(heaps):
        for room in own_rooms[at::heaps]:
            for _ in range(3 if own_kinds[at::heaps] else 0):
                kind = chance.choice(own_kinds[at::heaps])
                stand[room][kind] += chance.randrange(size - sum(stand[room]) + 1)
            if own_kinds[at::heaps]:
                stand[room][own_kinds[at]] += size - sum(stand[room])
            wish[room] = list(stand[room])
        for _ in range(6):
            one, other = chance.choice(own_rooms[at::heaps] or [0]), chance.choice(own_rooms[at::heaps] or [0])
            kind, back = chance.choice(own_kinds[at::heaps] or [0]), chance.choice(own_kinds[at::heaps] or [0])
            many = chance.randrange(min(wish[one][kind], wish[other][back]) + 1) if one != other else 0
            for room, less, more in ((one, kind, back), (other, back, kind)):
                wish[room][less] -= many
                wish[room][more] += many
    house = ((size,) * (rooms - 1) + (chance.randrange(1, 4),), kinds)
    return house, tuple(map(tuple, stand)), tuple(map(tuple, wish))


def done(house, stand, deed):
    """The stand behind a deed by the words of [6]; None where it can't be done."""
    kind, here, there = deed
    if stand[here][kind] < 1 or sum(stand[there]) >= house[0][there]:
        return None
    rows = [list(row) for row in stand]
    rows[here][kind] -= 1
    rows[there][kind] += 1
    return tuple(map(tuple, rows))


def played(house, stand, plan):
    """The stand behind a plan; None where a deed can't be done in its turn. Long rows: their first and last time."""
    for many, deeds in plan:
        ahead = stand
        for deed in deeds:
            stand = stand and done(house, stand, deed)
        if stand is None:
            return None
        if many > 1:
            stand = tuple(
                tuple(old + (many - 1) * (new - old) for old, new in zip(*rows)) for rows in zip(ahead, stand)
            )
        for deed in deeds if many > 1 else ():
            stand = stand and done(house, stand, deed)
        if stand is None:
            return None
    return stand


def spoilt(thing):
    """What a tuple of tuples and whole numbers comes to where one thing in it is put otherwise."""
    if not isinstance(thing, tuple):
        return [None, str(thing), [thing], (thing,), {thing: thing}, True, False, 10 ** 59, -1, -(10 ** 59)]
    told = [None, True, 1, "", list(thing), dict(enumerate(thing)), (thing,), [thing]]
    told += [thing + (0,), thing + thing[-1:], thing[:-1], thing[1:], ()]
    for at, part in enumerate(thing):
        told += [thing[:at] + (other,) + thing[at + 1:] for other in spoilt(part)]
    return told


class Asking(unittest.TestCase):
    """Looks at each call for what [2] promises of all: told apart by repr, for True == 1 and 1 == True."""

    def ask(self, function, *handed):
        ahead = repr(handed)
        told = function(*handed)
        self.assertEqual(ahead, repr(handed), "what was handed in is changed")
        self.assertEqual(repr(told), repr(function(*handed)), "asked twice, answered otherwise")
        self.assert_plain(told)
        return told

    def assert_plain(self, told):
        self.assertIn(type(told), (tuple, str, int, bool, type(None)))
        if isinstance(told, tuple):
            for part in told:
                self.assert_plain(part)

    def assert_tells(self, wanted, function, *handed):
        self.assertEqual(repr(wanted), repr(self.ask(function, *handed)), repr(handed)[:300])

    def assert_refuses(self, error, field, worth, function, *handed):
        ahead = repr(handed)
        for _ in range(2):
            with self.assertRaises(error) as caught:
                function(*handed)
            self.assertIs(type(caught.exception), error)
            if field is None:
                self.assertEqual({}, vars(caught.exception))
            else:
                self.assertIs(getattr(caught.exception, field), worth)
            self.assertEqual(ahead, repr(handed), "what was handed in is changed")
