"""Likeness: whether two plans are one but for the numbers of their items."""

from putbetween.errors import TooLarge
from putbetween.kinds import is_order
from putbetween.plans import need_plan

MOST_MATCHED = 9


def sameness(one, other):
    """The least tuple of twins in the other plan for the items of the one, or None."""
    need_plan(one)
    need_plan(other)
    if max(len(one), len(other)) > MOST_MATCHED:
        raise TooLarge(MOST_MATCHED)
    if len(one) != len(other):
        return None
    # Twins have seen, and are seen by, as many: few tuples are left to try.
    counts = sight_counts(one)
    others = sight_counts(other)
    choices = [[twin for twin, told in enumerate(others) if told == count] for count in counts]
    return least_twins(one, other, choices, ())


def sight_counts(plan):
    """For each item the pair of how many it has seen and how many have seen it."""
    seers = [0] * len(plan)
    for row in plan:
        for seen in row:
            seers[seen] += 1
    return [(len(row), many) for row, many in zip(plan, seers)]


def least_twins(one, other, choices, twins):
    """The least sameness that begins with these twins, or None."""
    item = len(twins)
    if item == len(one):
        return twins
    for twin in choices[item]:
        if twin not in twins and fits(one, other, twins, twin):
            whole = least_twins(one, other, choices, twins + (twin,))
            if whole is not None:
                return whole
    return None


def fits(one, other, twins, twin):
    """Whether the twin stands to the twins ahead as the next item of the one stands to theirs."""
    row = one[len(twins)]
    for elder, ahead in enumerate(twins):
        if (elder in row) != (ahead in other[twin]) or twin in other[ahead]:
            return False
    return True


def is_sameness(one, other, thing):
    """Whether a thing is a tuple of twins in the other plan for the items of the one."""
    need_plan(one)
    need_plan(other)
    if len(one) != len(other) or not is_order(len(one), thing):
        return False
    for item, row in enumerate(one):
        if tuple(sorted([thing[seen] for seen in row])) != other[thing[item]]:
            return False
    return True
