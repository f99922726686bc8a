"""Plans: what the hand of each item has seen when the item is put in."""

from putbetween.errors import NoItem, NoItems, NoNumber, NoPlan, NoSights, TooLarge
from putbetween.kinds import is_list_or_tuple, is_number, is_rising

MOST_ITEMS = 40
MOST_LISTED = 5


def is_plan(thing):
    """Whether a thing is a plan."""
    # Only tuples in a tuple are like what is closed: a list there makes no plan.
    return is_sights(thing) and closed(thing) == thing


def need_plan(plan):
    """Raise NoPlan for what is no plan."""
    if not is_plan(plan):
        raise NoPlan()


def is_item(plan, thing):
    """Whether a thing is an item of a plan."""
    return is_number(0, len(plan) - 1, thing)


def need_item(plan, item):
    """Raise NoItem for what is no item of a plan."""
    if not is_item(plan, item):
        raise NoItem()


def need_few(many):
    """Raise TooLarge for more items than a plan may have."""
    if many > MOST_ITEMS:
        raise TooLarge(MOST_ITEMS)


def plan_of(sights):
    """The least plan in which each item has seen at least what its row tells."""
    if not is_sights(sights):
        raise NoSights()
    return closed(sights)


def is_sights(thing):
    """Whether a thing tells for each of some items lesser ones, in any order."""
    if not is_list_or_tuple(thing) or len(thing) > MOST_ITEMS:
        return False
    for item, row in enumerate(thing):
        if not is_list_or_tuple(row):
            return False
        if not all([is_number(0, item - 1, seen) for seen in row]):
            return False
    return True


def closed(sights):
    """The sights, and with each seen item what it has seen, in ascending tuples."""
    masks = []
    for row in sights:
        mask = 0
        for seen in row:
            mask = mask | masks[seen] | 1 << seen
        masks.append(mask)
    return tuple([items_of(mask) for mask in masks])


def items_of(mask):
    """The ascending tuple of the items whose bits are set in a mask."""
    return tuple([item for item in range(mask.bit_length()) if mask >> item & 1])


def behind(one, other):
    """The one plan and the other one behind it, which has seen all of the one."""
    need_plan(one)
    need_plan(other)
    need_few(len(one) + len(other))
    elders = tuple(range(len(one)))
    return one + tuple([elders + row for row in numbered_on(other, len(one))])


def beside(one, other):
    """The one plan and the other one, which has seen nothing of the one."""
    need_plan(one)
    need_plan(other)
    need_few(len(one) + len(other))
    return one + numbered_on(other, len(one))


def numbered_on(plan, start):
    """The rows of a plan whose items are numbered from a start on."""
    return tuple([tuple([seen + start for seen in row]) for row in plan])


def repeated(plan, times):
    """The plan set behind itself, so often in all."""
    need_plan(plan)
    if not is_number(0, MOST_ITEMS, times):
        raise NoNumber()
    need_few(len(plan) * times)
    whole = ()
    for _ in range(times):
        whole = behind(whole, plan)
    return whole


def turned(plan):
    """The plan in which each item has seen just those that had seen it."""
    need_plan(plan)
    last = len(plan) - 1
    rows = [[] for _ in plan]
    # From the last item down, each row is filled in ascending order.
    for item in reversed(range(len(plan))):
        for seen in plan[item]:
            rows[last - seen].append(last - item)
    return tuple([tuple(row) for row in rows])


def part(plan, items):
    """The plan of these items alone, numbered anew in their order."""
    need_plan(plan)
    if not is_part(plan, items):
        raise NoItems()
    numbers = {item: number for number, item in enumerate(items)}
    rows = []
    for item in items:
        rows.append(tuple([numbers[seen] for seen in plan[item] if seen in numbers]))
    return tuple(rows)


def is_part(plan, thing):
    """Whether a thing is an ascending tuple of unlike items of a plan."""
    return is_rising(len(plan), thing)


def with_sight(plan, item, seen):
    """The least plan in which the item has seen the other one, too."""
    need_plan(plan)
    need_item(plan, item)
    if not is_number(0, item - 1, seen):
        raise NoItem()
    return sighted(plan, item, seen)


def sighted(plan, item, seen):
    """What with_sight makes of what is known to be a plan and two of its items."""
    rows = list(plan)
    rows[item] = plan[item] + (seen,)
    return closed(rows)


def all_plans(many):
    """The ascending list of all plans with so many items."""
    if not is_number(0, MOST_LISTED, many):
        raise NoNumber()
    plans = [()]
    for _ in range(many):
        plans = [plan + (row,) for plan in plans for row in next_rows(plan)]
    return plans


def next_rows(plan):
    """The ascending list of what one more item of a plan can have seen."""
    rows = [items_of(mask) for mask in range(1 << len(plan))]
    return sorted([row for row in rows if is_plan(plan + (row,))])
