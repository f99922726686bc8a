"""Runs: into which gap, among those that it has seen, each item is put."""

from putbetween.errors import NoNumber, NoOrder, NoRun
from putbetween.kinds import is_number, is_order
from putbetween.plans import need_plan


def many_runs(plan):
    """The number of the runs."""
    need_plan(plan)
    many = 1
    for row in plan:
        many = many * (len(row) + 1)
    return many


def is_run(plan, thing):
    """Whether a thing is a run of what is known to be a plan."""
    if not isinstance(thing, tuple) or len(thing) != len(plan):
        return False
    return all([is_number(0, len(row), gap) for row, gap in zip(plan, thing)])


def need_run(plan, run):
    """Raise NoRun for what is no run of a plan."""
    if not is_run(plan, run):
        raise NoRun()


def run_at(plan, number):
    """The run with this number, all runs being numbered ascending."""
    if not is_number(0, many_runs(plan) - 1, number):
        raise NoNumber()
    gaps = []
    left = number
    # The gap of the last item changes from each run to the next one.
    for row in reversed(plan):
        left, gap = divmod(left, len(row) + 1)
        gaps.append(gap)
    return tuple(gaps[::-1])


def number_of(plan, run):
    """The number of a run, all runs being numbered ascending."""
    need_plan(plan)
    need_run(plan, run)
    number = 0
    for row, gap in zip(plan, run):
        number = number * (len(row) + 1) + gap
    return number


def run_of(plan, order):
    """The run in which as many of the seen items stand ahead of each item as in the order."""
    need_plan(plan)
    if not is_order(len(plan), order):
        raise NoOrder()
    gaps = []
    for item, row in enumerate(plan):
        ahead = order[:order.index(item)]
        gaps.append(len([seen for seen in row if seen in ahead]))
    return tuple(gaps)
