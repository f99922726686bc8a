"""The words of DOC.md said over as plainly as possible, to hold the program against.

Nothing here is taken from the program, and nothing here is made to be fast."""

import itertools
import random


def is_integer(thing):
    return type(thing) is int


def is_plan(thing):
    if type(thing) is not tuple or len(thing) > 40:
        return False
    for item, row in enumerate(thing):
        if type(row) is not tuple:
            return False
        for seen in row:
            if not is_integer(seen) or not 0 <= seen < item:
                return False
        for left, right in itertools.pairwise(row):
            if not left < right:
                return False
    for row in thing:
        for seen in row:
            for elder in thing[seen]:
                if elder not in row:
                    return False
    return True


def is_sights(thing):
    if type(thing) not in (list, tuple) or len(thing) > 40:
        return False
    for item, row in enumerate(thing):
        if type(row) not in (list, tuple):
            return False
        for seen in row:
            if not is_integer(seen) or not 0 <= seen < item:
                return False
    return True


def closure(sights):
    """What can be reached from each item, step by step."""
    rows = []
    for item in range(len(sights)):
        reached = set()
        waiting = list(sights[item])
        while waiting:
            seen = waiting.pop()
            if seen not in reached:
                reached.add(seen)
                waiting.extend(sights[seen])
        rows.append(tuple(sorted(reached)))
    return tuple(rows)


def is_chain(plan, thing):
    if type(thing) is not tuple or not thing:
        return False
    for item in thing:
        if not is_integer(item) or not 0 <= item < len(plan):
            return False
    for one, other in itertools.combinations(thing, 2):
        if not one < other or one not in plan[other]:
            return False
    return True


def all_chains(plan):
    """All sets of items, as ascending tuples, that are chains."""
    found = []
    for many in range(1, len(plan) + 1):
        for items in itertools.combinations(range(len(plan)), many):
            if is_chain(plan, items):
                found.append(items)
    return found


def all_samenesses(one, other):
    found = []
    if len(one) != len(other):
        return found
    items = range(len(one))
    for twins in itertools.permutations(items):
        if all((k in one[i]) == (twins[k] in other[twins[i]]) for i in items for k in items):
            found.append(twins)
    return found


def rounds(hands, times):
    """The plan of so many rounds of so many items, each having seen all rounds ahead."""
    return tuple(tuple(range(item // hands * hands)) for item in range(hands * times))


def drawn_plan(draw, many):
    """A plan with so many items; how much they have seen is drawn, too."""
    tenths = draw.randrange(11)
    sights = []
    for item in range(many):
        sights.append([seen for seen in range(item) if draw.randrange(10) < tenths])
    return closure(sights)


def near_plan(draw, many):
    """A plan with so many items that have seen little, most of it just ahead of them."""
    sights = []
    for item in range(many):
        sights.append([seen for seen in range(max(0, item - 4), item) if draw.randrange(3) == 0])
    return closure(sights)


def drawn_plans(seed, many, most_items):
    """So many plans, the same ones for each call with the same seed."""
    draw = random.Random(seed)
    plans = []
    for number in range(many):
        make = near_plan if number % 2 else drawn_plan
        plans.append(make(draw, draw.randrange(most_items + 1)))
    return plans


def shuffled(draw, plan):
    """A plan that is the same but for the numbers of its items, in a drawn order."""
    order = []
    while len(order) < len(plan):
        ready = [i for i in range(len(plan)) if i not in order and set(plan[i]) <= set(order)]
        order.append(draw.choice(ready))
    return tuple(tuple(sorted(order.index(seen) for seen in plan[item])) for item in order)
