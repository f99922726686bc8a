"""Ranks: the order in which the chains of a plan stand."""

from putbetween.chains import beginning, chains, need_chain
from putbetween.errors import NoNumber, TooMany
from putbetween.kinds import is_number
from putbetween.plans import need_plan

MOST_LISTED = 5000


def ahead(plan, one, other):
    """Whether the one chain is ahead of the other one."""
    need_plan(plan)
    need_chain(plan, one)
    need_chain(plan, other)
    return turned_about(one) < turned_about(other)


def turned_about(chain):
    """What is less for a chain that is ahead: a beginning, or where first unlike the greater item."""
    return tuple([-item for item in chain])


def first_items(plan):
    """The items with which a chain can begin, as their chains stand."""
    return list(reversed(range(len(plan))))


def next_items(plan):
    """For each item those that can stand behind it in a chain, as these chains stand."""
    rows = [[] for _ in plan]
    for item in first_items(plan):
        for seen in plan[item]:
            rows[seen].append(item)
    return rows


def rank(plan, chain):
    """The number of the chains that are ahead of a chain."""
    need_plan(plan)
    need_chain(plan, chain)
    numbers = beginning(plan)
    follow = next_items(plan)
    choices = first_items(plan)
    # Each beginning of the chain counts, the chain itself does not.
    count = len(chain) - 1
    for item in chain:
        count += sum([numbers[other] for other in choices if other > item])
        choices = follow[item]
    return count


def chain_at(plan, number):
    """The chain with this rank."""
    need_plan(plan)
    if not is_number(0, chains(plan) - 1, number):
        raise NoNumber()
    numbers = beginning(plan)
    follow = next_items(plan)
    item, left = chosen(first_items(plan), numbers, number)
    chain = (item,)
    # The chain as it is so far is the first of those that begin with it.
    while left > 0:
        item, left = chosen(follow[item], numbers, left - 1)
        chain += (item,)
    return chain


def chosen(choices, numbers, left):
    """The item with which the chain begins behind so many others, and how many of these begin with it."""
    at = 0
    while left >= numbers[choices[at]]:
        left -= numbers[choices[at]]
        at += 1
    return choices[at], left


def all_chains(plan):
    """The list of all chains, as they stand."""
    need_plan(plan)
    if chains(plan) > MOST_LISTED:
        raise TooMany(MOST_LISTED)
    follow = next_items(plan)
    begun = {}
    found = []
    # What can stand behind an item has been gone through ahead of it.
    for item in first_items(plan):
        rests = [rest for other in follow[item] for rest in begun[other]]
        begun[item] = [(item,)] + [(item,) + rest for rest in rests]
        found.extend(begun[item])
    return found


def longest(plan):
    """Of the chains with the most items the one that is ahead of the others, or ()."""
    need_plan(plan)
    follow = next_items(plan)
    lengths = [0] * len(plan)
    for item in first_items(plan):
        lengths[item] = 1 + max([lengths[other] for other in follow[item]], default=0)
    chain = ()
    choices = first_items(plan)
    while choices:
        # Of several items max takes the first one, whose chains are ahead.
        item = max(choices, key=lambda other: lengths[other])
        chain += (item,)
        choices = follow[item]
    return chain
