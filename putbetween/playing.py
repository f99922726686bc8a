"""Playing: the items of a run are put in one by one, named and ordered by strangers."""

from putbetween.chains import beginning
from putbetween.naming import seen_of
from putbetween.plans import need_plan
from putbetween.runs import many_runs, need_run
from putbetween.strangers import first_faulty, name_fault, need_few_runs
from putbetween.words import LETTERS, need_letters

# The names of no items, and these as they stand.
NOTHING = ((), ())


def played(plan, run, namer, table):
    """The first fault of a run; without any "done", the names, and the items as they stand."""
    need_plan(plan)
    need_run(plan, run)
    return play(plan, run, namer, table)


def play(plan, run, namer, table):
    """What played tells of what is known to be a run of a plan."""
    state = NOTHING
    for gap in run:
        fault, state = put_in(plan, gap, state, namer, table)
        if fault is not None:
            return fault
    return ("done",) + state


def faulty(plan, namer, table):
    """The pair of the first run with a fault and this fault, or None."""
    need_few_runs(many_runs(plan))

    def choices(run):
        return list(range(len(plan[len(run)]) + 1))

    def put(run, state):
        return put_in(plan, run[-1], state, namer, table)

    return first_faulty(len(plan), choices, put, (), NOTHING)


def put_in(plan, gap, state, namer, table):
    """The fault behind the next item, or None; and the names and the order of the items then."""
    names, order = state
    item = len(names)
    view = tuple([(other, names[other]) for other in seen_of(plan, item, order)])
    name = namer(plan, item, view, gap)
    fault = name_fault(names, name)
    if fault is not None:
        return fault, state
    told = []
    for other in names:
        told.append(is_ahead(table, other, name))
        if told[-1] is None:
            return ("silent", len(told) - 1, item), state
    fault = order_fault(plan, gap, order, told)
    if fault is not None:
        return fault, state
    place = told.count(True)
    return None, (names + (name,), order[:place] + (item,) + order[place:])


def is_ahead(table, one, other):
    """Whether the table tells the one name to stand ahead of the other one; None if it tells neither."""
    told = table(one, other)
    turned = table(other, one)
    if told is True and turned is False:
        return True
    if told is False and turned is True:
        return False
    return None


def order_fault(plan, gap, order, told):
    """The fault in what is told of the earlier items: whether each one stands ahead of the next item; or None."""
    item = len(told)
    ahead = seen_of(plan, item, order)[:gap]
    for other in plan[item]:
        if told[other] != (other in ahead):
            return ("against", other, item)
    pairs = round_pairs(order, told)
    return ("round",) + min(pairs) + (item,) if pairs else None


def round_pairs(order, told):
    """The pairs of earlier items, the lesser first, that go round with the next item."""
    place = told.count(True)
    if all([told[other] for other in order[:place]]):
        return []
    pairs = []
    for at, one in enumerate(order):
        # Told behind the next item, though another one is told ahead of it that stands further behind.
        if not told[one]:
            pairs.extend([(min(one, other), max(one, other)) for other in order[at:] if told[other]])
    return pairs


def plain_namer(plan, item, view, gap):
    """The word of the plain name."""
    need_letters(plan)
    neighbour = "" if gap == 0 else view[gap - 1][1]
    return neighbour + LETTERS[item]


def plain_table(one, other):
    """Whether the one word stands ahead of the other one."""
    return one < other


def rank_namer(plan, item, view, gap):
    """The rank of the plain name."""
    numbers = beginning(plan)
    later = range(item + 1, len(plan))
    if gap == 0:
        return sum([numbers[other] for other in later])
    left, rank = view[gap - 1]
    # The neighbour's name is ahead, and so is all that goes on from it with a greater item.
    return rank + 1 + sum([numbers[other] for other in later if left in plan[other]])


def rank_table(one, other):
    """Whether the one rank stands ahead of the other one."""
    return one < other
