"""All refusals of the program, each with its field as it was handed in."""


class RoomError(ValueError):
    """What all refusals have in common. Its message is its own name, so that logs and desks can tell it."""


class BadHouse(RoomError):
    """What was handed in is no house."""

    def __init__(self):
        super().__init__("BadHouse")


class BadStand(RoomError):
    """What was handed in is no stand of the house."""

    def __init__(self):
        super().__init__("BadStand")


class NoKind(RoomError):
    """What was handed in is no kind's number."""

    def __init__(self, kind):
        super().__init__("NoKind")
        self.kind = kind


class NoRoom(RoomError):
    """What was handed in is no room's number, or is the same room again."""

    def __init__(self, room):
        super().__init__("NoRoom")
        self.room = room


class NoNumber(RoomError):
    """What was handed in is no whole number within the bounds told."""

    def __init__(self, number):
        super().__init__("NoNumber")
        self.number = number


class Lacks(RoomError):
    """There are not so many things in the room."""

    def __init__(self, room):
        super().__init__("Lacks")
        self.room = room


class Full(RoomError):
    """There are not so many places in the room."""

    def __init__(self, room):
        super().__init__("Full")
        self.room = room


class Unlike(RoomError):
    """The two stands do not have as many things of the kind."""

    def __init__(self, kind):
        super().__init__("Unlike")
        self.kind = kind


class NoPlace(RoomError):
    """Something is amiss, and no room has a place."""

    def __init__(self):
        super().__init__("NoPlace")


class NoArc(RoomError):
    """What was handed in is no arc that may be taken here."""

    def __init__(self, arc):
        super().__init__("NoArc")
        self.arc = arc


class TooGreat(RoomError):
    """A room's size would be above GREAT."""

    def __init__(self):
        super().__init__("TooGreat")


class Needed(RoomError):
    """The room cannot be left out: something is amiss in it."""

    def __init__(self, room):
        super().__init__("Needed")
        self.room = room


class NoName(RoomError):
    """What was handed in is no name, or no wish's name."""

    def __init__(self, name):
        super().__init__("NoName")
        self.name = name


class Locked(RoomError):
    """The room is locked."""

    def __init__(self, room):
        super().__init__("Locked")
        self.room = room


class Open(RoomError):
    """The room is not locked."""

    def __init__(self, room):
        super().__init__("Open")
        self.room = room


class TooMany(RoomError):
    """As many deeds stand as the store takes at most."""

    def __init__(self, most):
        super().__init__("TooMany")
        self.most = most


class NothingBack(RoomError):
    """No deed stands that could be undone."""

    def __init__(self):
        super().__init__("NothingBack")


class NoMoment(RoomError):
    """What was handed in is no moment of the store."""

    def __init__(self, at):
        super().__init__("NoMoment")
        self.at = at


class NoDeeds(RoomError):
    """What was handed in is no row of deeds to be tried."""

    def __init__(self):
        super().__init__("NoDeeds")


class Broken(RoomError):
    """The tried deed with that number was refused."""

    def __init__(self, at):
        super().__init__("Broken")
        self.at = at


class BadText(RoomError):
    """The text's row with that number is not such a one; None: it is no text."""

    def __init__(self, row):
        super().__init__("BadText")
        self.row = row
