"""Naming: the plain names of the items of a run, and how they stand."""

from putbetween.chains import makes_chain
from putbetween.errors import NoChain
from putbetween.kinds import is_list_or_tuple
from putbetween.plans import need_item, need_plan
from putbetween.runs import need_run


def names(plan, run):
    """The plain names of the items: chains."""
    need_plan(plan)
    need_run(plan, run)
    return chains_at(plan, run)


def chains_at(plan, run):
    """The plain names of what is known to be a run of a plan."""
    found = []
    for item, left in enumerate(neighbours(plan, run)):
        found.append((item,) if left is None else found[left] + (item,))
    return tuple(found)


def standing(plan, run):
    """All items in the order of their names."""
    need_plan(plan)
    need_run(plan, run)
    return order_at(plan, run)


def order_at(plan, run):
    """The items in the order of their names, on what is known to be a run of a plan."""
    return tuple(placed(neighbours(plan, run)))


def view(plan, run, item):
    """The items that the item has seen, in the order of their names."""
    row = standing(plan, run)
    need_item(plan, item)
    return tuple(seen_of(plan, item, row))


def seen_of(plan, item, order):
    """Those of an order that an item has seen, as they stand there."""
    return [other for other in order if other in plan[item]]


def neighbours(plan, run):
    """For each item its left neighbour, None where the gap is 0."""
    lefts = []
    order = []
    for item, gap in enumerate(run):
        left = seen_of(plan, item, order)[gap - 1] if gap > 0 else None
        lefts.append(left)
        put_behind(order, left, item)
    return lefts


def placed(lefts):
    """The items in the order of their names, when each has this left neighbour."""
    order = []
    for item, left in enumerate(lefts):
        put_behind(order, left, item)
    return order


def put_behind(order, left, item):
    """Put an item, greater than all that stand there, where its name belongs."""
    # Of the chains that go on from the neighbour's one, that with the greatest item is the first.
    order.insert(0 if left is None else order.index(left) + 1, item)


def run_with(plan, row):
    """A run on which each of these chains is the plain name of its last item, or None."""
    need_plan(plan)
    if not is_list_or_tuple(row):
        raise NoChain()
    if not all([makes_chain(plan, thing) for thing in row]):
        raise NoChain()
    wanted = {}
    for chain in row:
        for many in range(1, len(chain) + 1):
            part = chain[:many]
            if wanted.setdefault(part[-1], part) != part:
                return None
    return run_to(plan, [wanted.get(item, (item,)) for item in range(len(plan))])


def run_to(plan, chains):
    """The run on which these chains, and so their beginnings, are the plain names of the items."""
    gaps = []
    order = []
    for item, chain in enumerate(chains):
        left = chain[-2] if len(chain) > 1 else None
        gaps.append(0 if left is None else seen_of(plan, item, order).index(left) + 1)
        put_behind(order, left, item)
    return tuple(gaps)
