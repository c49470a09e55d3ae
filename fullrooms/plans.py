"""Plans: their form, whether they lead to a wish by fewest deeds, and what is far along them."""

from fullrooms.errors import Full, Lacks
from fullrooms.fewest import fewest
from fullrooms.houses import carried, is_deed, with_more
from fullrooms.wholes import GREAT, ROWS, STEPS, check_from, is_from


def is_plan(house, thing):
    """Whether anything has a plan's form, though its deeds perhaps can't be done."""
    if not isinstance(thing, tuple) or len(thing) > ROWS:
        return False
    return all([is_plan_row(house, row) for row in thing])


def is_plan_row(house, thing):
    """Whether anything is a plan's row: a tuple (many, deeds)."""
    if not isinstance(thing, tuple) or len(thing) != 2:
        return False
    many, deeds = thing
    if not is_from(many, 1, GREAT) or not isinstance(deeds, tuple) or not is_from(len(deeds), 1, STEPS):
        return False
    return all([is_deed(house, deed) for deed in deeds])


def plan_holds(house, stand, wish, thing):
    """Whether anything is a plan that leads the stand to the wish."""
    return is_plan(house, thing) and stand_behind(house, stand, thing) == wish


def is_least(house, stand, wish, thing):
    """Whether anything is a plan of fewest deeds that leads the stand to the wish."""
    return plan_holds(house, stand, wish, thing) and length(thing) == fewest(house, stand, wish)


def stand_behind(house, stand, plan):
    """The stand behind a plan; None where one of its deeds can't be done in its turn."""
    try:
        for many, deeds in plan:
            done_in_turn(house, stand, deeds)
            # What each room has goes up or down evenly: where the first and the last time can be done, all can.
            stand = done_in_turn(house, shifted(stand, deeds, many - 1), deeds)
    except (Lacks, Full):
        return None
    return stand


def done_in_turn(house, stand, deeds):
    """The stand behind deeds that are done one behind another."""
    for deed in deeds:
        stand = carried(house, stand, deed, 1)
    return stand


def shifted(stand, deeds, many):
    """The stand behind so many times of some deeds, whether they can be done or not."""
    for kind, here, there in deeds:
        stand = with_more(with_more(stand, here, kind, -many), there, kind, many)
    return stand


def length(plan):
    """How many deeds are done in all."""
    return sum([many * len(deeds) for many, deeds in plan])


def after(house, stand, plan, number):
    """The stand behind the first so many deeds of a plan that can be done."""
    check_from(number, 0, length(plan))
    left = number
    for many, deeds in plan:
        times = min(many, left // len(deeds))
        stand = shifted(stand, deeds, times)
        left -= times * len(deeds)
        if times < many:
            return shifted(stand, deeds[:left], 1)
    return stand


def deed_at(plan, number):
    """The deed with that number, from 0."""
    check_from(number, 0, length(plan) - 1)
    left = number
    for many, deeds in plan:
        if left < many * len(deeds):
            return deeds[left % len(deeds)]
        left -= many * len(deeds)


def worked(house, plan):
    """For each room how often a thing is taken there and how often one is brought, by all deeds of a plan."""
    return tuple([(times_at(plan, 1, room), times_at(plan, 2, room)) for room in range(len(house[0]))])


def times_at(plan, end, room):
    """How many of a plan's deeds have the room at that end: 1 is here, 2 is there."""
    return sum([many for many, deeds in plan for deed in deeds if deed[end] == room])
