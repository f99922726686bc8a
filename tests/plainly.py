"""The words of DOC.md said over as plainly as possible, to hold the program against.

Nothing here is taken from the program, and nothing here is made to be fast."""

import functools
import itertools
import random


def is_integer(thing):
    return type(thing) is int


def is_plan(thing):
    if type(thing) is not tuple or len(thing) > 40:
        return False
    for item, row in enumerate(thing):
        if type(row) is not tuple:
            return False
        for seen in row:
            if not is_integer(seen) or not 0 <= seen < item:
                return False
        for left, right in itertools.pairwise(row):
            if not left < right:
                return False
    for row in thing:
        for seen in row:
            for elder in thing[seen]:
                if elder not in row:
                    return False
    return True


def is_sights(thing):
    if type(thing) not in (list, tuple) or len(thing) > 40:
        return False
    for item, row in enumerate(thing):
        if type(row) not in (list, tuple):
            return False
        for seen in row:
            if not is_integer(seen) or not 0 <= seen < item:
                return False
    return True


def closure(sights):
    """What can be reached from each item, step by step."""
    rows = []
    for item in range(len(sights)):
        reached = set()
        waiting = list(sights[item])
        while waiting:
            seen = waiting.pop()
            if seen not in reached:
                reached.add(seen)
                waiting.extend(sights[seen])
        rows.append(tuple(sorted(reached)))
    return tuple(rows)


def is_chain(plan, thing):
    if type(thing) is not tuple or not thing:
        return False
    for item in thing:
        if not is_integer(item) or not 0 <= item < len(plan):
            return False
    for one, other in itertools.combinations(thing, 2):
        if not one < other or one not in plan[other]:
            return False
    return True


def all_chains(plan):
    """All sets of items, as ascending tuples, that are chains."""
    found = []
    for many in range(1, len(plan) + 1):
        for items in itertools.combinations(range(len(plan)), many):
            if is_chain(plan, items):
                found.append(items)
    return found


def all_samenesses(one, other):
    found = []
    if len(one) != len(other):
        return found
    items = range(len(one))
    for twins in itertools.permutations(items):
        if all((k in one[i]) == (twins[k] in other[twins[i]]) for i in items for k in items):
            found.append(twins)
    return found


def is_ahead(one, other):
    """Whether the one chain is ahead of the other one."""
    for a, b in zip(one, other):
        if a != b:
            return a > b
    return len(one) < len(other)


def in_order(chains):
    """The list of these unlike chains, as they stand."""
    return sorted(chains, key=functools.cmp_to_key(lambda one, other: -1 if is_ahead(one, other) else 1))


def all_runs(plan):
    return list(itertools.product(*[range(len(row) + 1) for row in plan]))


def names(plan, run):
    """The plain names, the items being put in one by one."""
    found = []
    for item, gap in enumerate(run):
        seen = in_order([found[other] for other in plan[item]])
        found.append(seen[gap - 1] + (item,) if gap else (item,))
    return tuple(found)


def standing(plan, run):
    return tuple(name[-1] for name in in_order(names(plan, run)))


def is_run(plan, thing):
    if type(thing) is not tuple or len(thing) != len(plan):
        return False
    return all(is_integer(gap) and 0 <= gap <= len(row) for gap, row in zip(thing, plan))


def is_order(many, thing):
    if type(thing) is not tuple or not all(is_integer(item) for item in thing):
        return False
    return sorted(thing) == list(range(many))


def is_event(thing):
    if type(thing) is not tuple or not thing or type(thing[0]) is not str:
        return False
    hands = thing[1:]
    if not all(is_integer(hand) and 0 <= hand <= 15 for hand in hands):
        return False
    if thing[0] == "put":
        return len(hands) == 1
    return thing[0] == "meet" and len(hands) == 2 and hands[0] != hands[1]


def day_fault(thing):
    """The index with which NoDay is due, or None for a day."""
    if type(thing) not in (list, tuple) or len(thing) > 60:
        return -1
    if sum(is_event(event) and event[0] == "put" for event in thing) > 40:
        return -1
    for index, event in enumerate(thing):
        if not is_event(event):
            return index
    return None


def spreads(day, start, end):
    """Whether the sight of what is put in at the one event has spread to the hand of the other one."""
    holders = {day[start][1]}
    for event in day[start + 1:end]:
        if event[0] == "meet" and holders & set(event[1:]):
            holders |= set(event[1:])
    return day[end][1] in holders


def day_plan(day):
    puts = [at for at, event in enumerate(day) if event[0] == "put"]
    return tuple(tuple(x for x in range(y) if spreads(day, puts[x], puts[y])) for y in range(len(puts)))


def without(day, left):
    """The day without the events with these indexes."""
    return [event for index, event in enumerate(day) if index not in left]


def drawn_day(draw, events, puts, hands):
    """A day with so many events, so many of them puts, of the hands from 0 on below so many."""
    kinds = ["put"] * puts + ["meet"] * (events - puts)
    draw.shuffle(kinds)
    day = []
    for kind in kinds:
        both = draw.sample(range(hands), 2)
        day.append((kind, both[0]) if kind == "put" else (kind, both[0], both[1]))
    return tuple(day) if draw.randrange(2) else day


def drawn_run(draw, plan):
    return tuple(draw.randrange(len(row) + 1) for row in plan)


def with_chains(many):
    """A plan with just so many chains."""
    if many == 0:
        return ()
    if many % 2:
        # An item behind which all others stand.
        return ((),) + tuple((0,) + tuple(seen + 1 for seen in row) for row in with_chains(many // 2))
    return with_chains(many - 1) + ((),)


def rounds(hands, times):
    """The plan of so many rounds of so many items, each having seen all rounds ahead."""
    return tuple(tuple(range(item // hands * hands)) for item in range(hands * times))


def drawn_plan(draw, many):
    """A plan with so many items; how much they have seen is drawn, too."""
    tenths = draw.randrange(11)
    sights = []
    for item in range(many):
        sights.append([seen for seen in range(item) if draw.randrange(10) < tenths])
    return closure(sights)


def near_plan(draw, many):
    """A plan with so many items that have seen little, most of it just ahead of them."""
    sights = []
    for item in range(many):
        sights.append([seen for seen in range(max(0, item - 4), item) if draw.randrange(3) == 0])
    return closure(sights)


def drawn_plans(seed, many, most_items):
    """So many plans, the same ones for each call with the same seed."""
    draw = random.Random(seed)
    plans = []
    for number in range(many):
        make = near_plan if number % 2 else drawn_plan
        plans.append(make(draw, draw.randrange(most_items + 1)))
    return plans


def shuffled(draw, plan):
    """A plan that is the same but for the numbers of its items, in a drawn order."""
    order = []
    while len(order) < len(plan):
        ready = [i for i in range(len(plan)) if i not in order and set(plan[i]) <= set(order)]
        order.append(draw.choice(ready))
    return tuple(tuple(sorted(order.index(seen) for seen in plan[item])) for item in order)
