"""Days: who puts in and who meets, the plans that come of it, and what each sight costs."""

from itertools import combinations

from putbetween.chains import ending_weights
from putbetween.errors import NoDay, NoNumber, TooMany
from putbetween.kinds import is_integer, is_list_or_tuple, is_number
from putbetween.plans import MOST_ITEMS, items_of, need_plan, repeated, sighted

MOST_EVENTS = 60
MOST_HANDS = 16
MOST_CHOSEN = 10


def day_plan(day):
    """The plan of a day: each item has seen all that its hand has seen by then."""
    need_day(day)
    return plan_without(day, ())


def day_hands(day):
    """The tuple of the hands of the items of a day."""
    need_day(day)
    return tuple([event[1] for event in day if event[0] == "put"])


def need_day(day):
    """Raise NoDay for what is no day."""
    if not is_list_or_tuple(day) or len(day) > MOST_EVENTS:
        raise NoDay(-1)
    if len([thing for thing in day if is_put(thing)]) > MOST_ITEMS:
        raise NoDay(-1)
    for index, thing in enumerate(day):
        if not is_put(thing) and not is_meet(thing):
            raise NoDay(index)


def is_put(thing):
    """Whether a thing is the event that a hand puts in an item."""
    if not isinstance(thing, tuple) or len(thing) != 2:
        return False
    return thing[0] == "put" and is_hand(thing[1])


def is_meet(thing):
    """Whether a thing is the event that two hands meet."""
    if not isinstance(thing, tuple) or len(thing) != 3:
        return False
    return thing[0] == "meet" and is_hand(thing[1]) and is_hand(thing[2]) and thing[1] != thing[2]


def is_hand(thing):
    """Whether a thing is a hand of a day."""
    return is_number(0, MOST_HANDS - 1, thing)


def plan_without(day, left):
    """The plan of a day without the events with the indexes that are left out."""
    masks = [0] * MOST_HANDS
    rows = []
    for index, event in enumerate(day):
        if index in left:
            continue
        hand = event[1]
        if event[0] == "put":
            rows.append(items_of(masks[hand]))
            masks[hand] = masks[hand] | 1 << len(rows) - 1
        else:
            both = masks[hand] | masks[event[2]]
            masks[hand] = both
            masks[event[2]] = both
    return tuple(rows)


def many_chains(plan):
    """The number of the chains of what is known to be a plan."""
    return sum(ending_weights(plan, 1))


def meets_of(day):
    """The indexes of the meets in a day."""
    return [index for index, event in enumerate(day) if event[0] == "meet"]


def meet_costs(day):
    """For each meet how many more chains there are with it than without it."""
    need_day(day)
    whole = many_chains(plan_without(day, ()))
    return tuple([whole - many_chains(plan_without(day, (index,))) for index in meets_of(day)])


def sight_costs(plan):
    """For each sight that a plan lacks how many more chains there are with it."""
    need_plan(plan)
    whole = many_chains(plan)
    costs = {}
    for item, row in enumerate(plan):
        for seen in range(item):
            if seen not in row:
                costs[(item, seen)] = many_chains(sighted(plan, item, seen)) - whole
    return costs


def rounds(hands, times):
    """The plan of so many rounds of so many items, each having seen just all rounds ahead."""
    if not is_number(0, MOST_ITEMS, hands):
        raise NoNumber()
    return repeated(((),) * hands, times)


def left_out(day, most):
    """The least choice of as few meets as possible without which so few chains are left, or None."""
    need_day(day)
    if not is_integer(most) or most < 0:
        raise NoNumber()
    meets = meets_of(day)
    if len(meets) > MOST_CHOSEN:
        raise TooMany(MOST_CHOSEN)
    for many in range(len(meets) + 1):
        for left in combinations(meets, many):
            if many_chains(plan_without(day, left)) <= most:
                return left
    return None
