"""Stores: a house that is lived in, with deeds that can be taken back, locked rooms, and wishes by names."""

from fullrooms.errors import BadHouse, BadStand, Broken, NoDeeds, NoMoment, NothingBack, RoomError, TooMany
from fullrooms.houses import is_house, is_stand, places
from fullrooms.locks import fewest_unlocked, leads_unlocked, plan_unlocked
from fullrooms.states import are_deeds, state_behind, wish_of
from fullrooms.wholes import is_from

DEEDS = 60


class Store:
    """A house, a stand of it, locked rooms and wishes, and all deeds that stand."""

    def __init__(self, house, stand, *, most=DEEDS):
        if not is_house(house):
            raise BadHouse()
        if not is_stand(house, stand):
            raise BadStand()
        self.most = most
        self.state = (house, stand, (), ())
        # The states ahead of each deed that stands, in order.
        self.past = []
        self.rows = []

    def carry(self, kind, here, there, many):
        """So many things of a kind go from here to there."""
        self.do(("carry", kind, here, there, many))

    def bring(self, kind, room, many):
        """So many things of a kind come into a room."""
        self.do(("bring", kind, room, many))

    def take(self, kind, room, many):
        """So many things of a kind go out of a room."""
        self.do(("take", kind, room, many))

    def widen(self, room, many):
        """A room has so many places more."""
        self.do(("widen", room, many))

    def narrow(self, room, many):
        """A room has so many places fewer."""
        self.do(("narrow", room, many))

    def lock(self, room):
        """A room is locked."""
        self.do(("lock", room))

    def unlock(self, room):
        """A room is not locked any more."""
        self.do(("unlock", room))

    def wish(self, name, stand):
        """A stand is wished by a name, in the place of one wished by it ahead."""
        self.do(("wish", name, stand))

    def drop(self, name):
        """The wish by that name goes."""
        self.do(("drop", name))

    def back(self):
        """The last deed that stands is undone."""
        if not self.past:
            self.rows.append(("back", "NothingBack"))
            raise NothingBack()
        self.state = self.past.pop()
        self.rows.append(("back", "done"))

    def do(self, deed):
        """Do a deed, told as a tuple of its word and what it is handed, and tell of it in the log."""
        try:
            state = self.state_if_done(self.state, len(self.past), deed)
        except RoomError as refusal:
            self.rows.append((deed[0], str(refusal)))
            raise
        self.stand_by([state], [deed])

    def tried(self, deeds):
        """Do all deeds of a row, or none."""
        if not are_deeds(deeds):
            raise NoDeeds()
        states = []
        state = self.state
        for at, deed in enumerate(deeds):
            try:
                state = self.state_if_done(state, len(self.past) + at, deed)
            except RoomError as refusal:
                self.rows.extend([(ahead[0], "undone") for ahead in deeds[:at]])
                self.rows.append((deed[0], str(refusal)))
                raise Broken(at) from refusal
            states.append(state)
        self.stand_by(states, deeds)

    def state_if_done(self, state, standing, deed):
        """The state behind a deed where so many deeds stand ahead of it."""
        if standing >= self.most:
            raise TooMany(self.most)
        return state_behind(state, deed)

    def stand_by(self, states, deeds):
        """Let deeds stand, each with the state behind it."""
        for state, deed in zip(states, deeds):
            self.past.append(self.state)
            self.state = state
            self.rows.append((deed[0], "done"))

    def state_at(self, at):
        """The state now, or behind the first so many deeds that stand."""
        if at is None:
            return self.state
        if not is_from(at, 0, len(self.past)):
            raise NoMoment(at)
        return self.past[at] if at < len(self.past) else self.state

    def house(self, *, at=None):
        """The house."""
        return self.state_at(at)[0]

    def stand(self, *, at=None):
        """The stand."""
        return self.state_at(at)[1]

    def locked(self, *, at=None):
        """The locked rooms, rising."""
        return self.state_at(at)[2]

    def wishes(self, *, at=None):
        """The names of all wishes, rising."""
        return tuple([pair[0] for pair in self.state_at(at)[3]])

    def wished(self, name, *, at=None):
        """The wish by that name."""
        return wish_of(self.state_at(at), name)

    def fewest(self, name, *, at=None):
        """The fewest deeds that lead to the wish by that name, by rooms that are not locked."""
        return fewest_unlocked(self.state_at(at), name)

    def plan(self, name, *, at=None):
        """A plan of fewest deeds that leads to the wish by that name, by rooms that are not locked."""
        return plan_unlocked(self.state_at(at), name)

    def leads(self, name, *, at=None):
        """All deeds that lead on to the wish by that name, by rooms that are not locked, rising."""
        return leads_unlocked(self.state_at(at), name)

    def free(self):
        """How many places all rooms have, locked ones too."""
        return sum(places(self.house(), self.stand()))

    def log(self):
        """A pair (word, how) for each deed asked, in order."""
        return tuple(self.rows)

    def twin(self):
        """A store that stands alike and goes its own way."""
        other = Store(self.house(), self.stand(), most=self.most)
        other.state = self.state
        other.past = list(self.past)
        other.rows = list(self.rows)
        return other

    def __eq__(self, other):
        return isinstance(other, Store) and self.state == other.state

    def __len__(self):
        return len(self.past)

    def __str__(self):
        return f"store of {len(self.stand())} rooms, {self.house()[1]} kinds, {self.free()} places"
