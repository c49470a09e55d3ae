"""Houses, stands and plans as texts, there and back."""

from fullrooms.errors import BadText
from fullrooms.houses import is_house, is_stand
from fullrooms.plans import is_plan_row
from fullrooms.wholes import ROWS, is_from

FIGURES = "0123456789"
# GREAT has so many, so that a longer one is beyond all bounds, and need not be looked at however long it is.
MOST_FIGURES = 13


def house_text(house):
    """A house's text."""
    sizes, kinds = house
    told = " ".join([str(size) for size in sizes])
    return f"house {kinds} kinds, sizes {told}"


def stand_text(stand):
    """A stand's text."""
    return " ".join([",".join([str(many) for many in row]) for row in stand])


def plan_text(plan):
    """A plan's text."""
    return "".join([f"{many} times: {deeds_text(deeds)}\n" for many, deeds in plan])


def deeds_text(deeds):
    """The text of deeds, as a plan's row has them."""
    return ", ".join([f"{kind} from {here} to {there}" for kind, here, there in deeds])


def read_house(thing):
    """The house that has that text."""
    check_text(thing)
    words = thing.split(" ")
    if words[:1] + words[2:4] != ["house", "kinds,", "sizes"]:
        raise BadText(0)
    house = (numbers_of(words[4:]), number_of(words[1]))
    if not is_house(house):
        raise BadText(0)
    return house


def read_stand(house, thing):
    """The stand of the house that has that text."""
    check_text(thing)
    stand = rows_of(thing.split(" "))
    if not is_stand(house, stand):
        raise BadText(0)
    return stand


def read_plan(house, thing):
    """The plan, with deeds of the house, that has that text."""
    check_text(thing)
    *lines, rest = thing.split("\n")
    rows = []
    for at, line in enumerate(lines):
        row = plan_row_of(line)
        if at == ROWS or not is_plan_row(house, row):
            raise BadText(at)
        rows.append(row)
    if rest != "":
        raise BadText(len(lines))
    return tuple(rows)


def check_text(thing):
    """Refuse anything that is no text."""
    if not isinstance(thing, str):
        raise BadText(None)


def number_of(word):
    """The whole number that a word tells by its figures, at most thirteen; None where it tells none."""
    if not is_from(len(word), 1, MOST_FIGURES) or not all([sign in FIGURES for sign in word]):
        return None
    if word[0] == "0" and word != "0":
        return None
    return int(word)


def numbers_of(words):
    """The whole numbers that words tell, None in the place of each word that tells none."""
    return tuple([number_of(word) for word in words])


def rows_of(words):
    """The rows of a stand that words tell, None in the place of what is no number."""
    return tuple([numbers_of(word.split(",")) for word in words])


def plan_row_of(line):
    """The row that a line tells, None in the place of what is no number or no deed."""
    many, times, deeds = line.partition(" times: ")
    return (number_of(many), tuple([deed_of(told) for told in deeds.split(", ")]))


def deed_of(told):
    """The deed that a text tells, None in the place of what is no number; None where it has not a deed's words."""
    words = told.split(" ")
    if words[1::2] != ["from", "to"]:
        return None
    return numbers_of(words[::2])
