"""Desks: a store that is spoken to by rows of words, and answers with texts."""

from fullrooms.errors import RoomError
from fullrooms.states import is_name
from fullrooms.texts import deeds_text, house_text, numbers_of, rows_of, stand_text

# How many numbers stand behind each word that has numbers alone.
NUMBERS = {
    "carry": 4, "bring": 3, "take": 3, "widen": 2, "narrow": 2, "lock": 1, "unlock": 1, "back": 0,
    "stand": 0, "house": 0, "wishes": 0,
}
NAMED = ("drop", "fewest", "leads")


class Desk:
    """A store, and all rows that were said to it, with their answers."""

    def __init__(self, store):
        self.store = store
        self.said = []

    def say(self, row):
        """Answer anything that is said."""
        if not isinstance(row, str):
            return "no row"
        answer = self.answer(row)
        self.said.append((row, answer))
        return answer

    def answer(self, row):
        """The answer to a text."""
        word, *rest = row.split(" ")
        handed = handed_by(word, rest)
        if handed is None:
            return "no row"
        try:
            return answer_of(self.store, word, handed)
        except RoomError as refusal:
            return "no " + str(refusal)

    def heard(self):
        """All rows said so far that are texts, and their answers, in order."""
        return tuple(self.said)


def handed_by(word, rest):
    """What is handed in by the words behind a row's first one; None where they don't belong there."""
    if word in NUMBERS:
        numbers = numbers_of(rest)
        return numbers if len(rest) == NUMBERS[word] and None not in numbers else None
    if rest == [] or not is_name(rest[0]):
        return None
    if word in NAMED and len(rest) == 1:
        return (rest[0],)
    if word == "wish" and len(rest) > 1:
        rows = rows_of(rest[1:])
        return (rest[0], rows) if not any([None in row for row in rows]) else None
    return None


def answer_of(store, word, handed):
    """What the store tells to a question, or that a deed is done."""
    if word == "stand":
        return stand_text(store.stand())
    if word == "house":
        return house_text(store.house())
    if word == "wishes":
        return or_dash(" ".join(store.wishes()))
    if word == "fewest":
        return str(store.fewest(*handed))
    if word == "leads":
        return or_dash(deeds_text(store.leads(*handed)))
    if word == "back":
        store.back()
    else:
        store.do((word, *handed))
    return "done"


def or_dash(text):
    """A text of what there is, or a dash where there is nothing."""
    return text if text != "" else "-"
