"""Chains: rows of items each of which has seen those ahead of it, and their numbers."""

from putbetween.errors import NoChain, NoNumber
from putbetween.kinds import is_number
from putbetween.plans import is_item, need_item, need_plan, turned

MOST_WEIGHT = 1000


def is_chain(plan, thing):
    """Whether a thing is a chain of a plan."""
    need_plan(plan)
    return makes_chain(plan, thing)


def makes_chain(plan, thing):
    """Whether a thing is a chain of what is known to be a plan."""
    if not isinstance(thing, tuple) or len(thing) == 0:
        return False
    if not all([is_item(plan, item) for item in thing]):
        return False
    # An item has seen all that its neighbour in the chain has seen.
    return all([elder in plan[item] for elder, item in zip(thing, thing[1:])])


def need_chain(plan, chain):
    """Raise NoChain for what is no chain of a plan."""
    if not makes_chain(plan, chain):
        raise NoChain()


def chains(plan):
    """The number of the chains."""
    return sum(ending(plan))


def ending(plan):
    """For each item the number of the chains that end with it."""
    need_plan(plan)
    return ending_weights(plan, 1)


def beginning(plan):
    """For each item the number of the chains that begin with it."""
    return ending(turned(plan))[::-1]


def ending_weights(plan, weight):
    """For each item the weight of all chains that end with it, as `weighed` sums it."""
    sums = []
    for row in plan:
        sums.append(1 + weight * sum([sums[seen] for seen in row]))
    return tuple(sums)


def by_length(plan):
    """The numbers of the chains of 1, 2, .. items, up to the longest ones."""
    need_plan(plan)
    numbers = []
    ends = [1] * len(plan)
    while any(ends):
        numbers.append(sum(ends))
        ends = [sum([ends[seen] for seen in row]) for row in plan]
    return tuple(numbers)


def weighed(plan, weight):
    """The sum, over all chains, of weight to the power of the items less 1."""
    need_plan(plan)
    if not is_number(0, MOST_WEIGHT, weight):
        raise NoNumber()
    return sum(ending_weights(plan, weight))


def through(plan, item):
    """The number of the chains that have the item."""
    need_plan(plan)
    need_item(plan, item)
    return ending(plan)[item] * beginning(plan)[item]


def between(plan, first, last):
    """The number of the chains that begin with the one item and end with the other one."""
    need_plan(plan)
    need_item(plan, first)
    need_item(plan, last)
    numbers = []
    for item, row in enumerate(plan):
        if item == first:
            numbers.append(1)
        else:
            numbers.append(sum([numbers[seen] for seen in row]))
    return numbers[last]
