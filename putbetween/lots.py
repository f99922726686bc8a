"""Lots: each item founds a lot or joins one, and names tell which items are of one lot."""

from putbetween.errors import NoRun
from putbetween.kinds import is_integer
from putbetween.marked import first_marked, play_marked, tells_flag
from putbetween.plans import need_plan
from putbetween.strangers import is_answer, need_few_runs, remembering


def many_lots(plan):
    """The number of the lot runs."""
    need_plan(plan)
    # How many runs of the items so far there are with each set of founders, a set being told by its bits.
    counts = {0: 1}
    for item, seen in enumerate(plan):
        counts = with_item(counts, item, seen)
        # There are never less runs of more items, so this need not go on; and there are no more sets than runs.
        need_few_runs(sum(counts.values()))
    return sum(counts.values())


def with_item(counts, item, seen):
    """How many runs there are with each set of founders when the item that has seen these is put in, too."""
    longer = {}
    for mask, many in counts.items():
        longer[mask | 1 << item] = many
        joined = len([other for other in seen if mask >> other & 1])
        if joined > 0:
            longer[mask] = many * joined
    return longer


def lots_needed(plan):
    """How few names are enough: one for each item, and one for each pair of which one has seen the other one."""
    need_plan(plan)
    return len(plan) + sum([len(seen) for seen in plan])


def lot_names(plan, run):
    """The plain names: pairs of the founder and the item."""
    need_lots(plan, run)
    return tuple([(founder, item) for item, founder in enumerate(run)])


def lot_played(plan, run, namer, table):
    """The first fault of a lot run; without any "done" and the names."""
    need_lots(plan, run)
    return play(plan, run, namer, table)


def lot_faulty(plan, namer, table):
    """The pair of the first lot run with a fault and this fault, or None."""
    need_few_runs(many_lots(plan))

    def choices(run):
        return founders(plan, run)

    return first_marked(plan, choices, namer, table, is_right)


def lot_foe(plan, namer, table):
    """A lot run with its fault, or as many runs and items, with names all unlike, as there are names needed."""
    need_plan(plan)
    asked = remembering(namer)
    rows = []
    # At first each item founds a lot. Behind that all that have seen one item join its lot: these names
    # are told to be of one lot with a name that the item keeps, and all others are told not to be.
    for founder in [None] + list(range(len(plan))):
        run = gathered(plan, founder)
        told = play(plan, run, asked, table)
        if told[0] != "done":
            return ("fault", run, told)
        rows.extend([(run, item) for item, seen in enumerate(plan) if founder is None or founder in seen])
    return ("names", rows)


def gathered(plan, founder):
    """The lot run on which all that have seen the founder join its lot, and all others found one."""
    return tuple([founder if founder in seen else item for item, seen in enumerate(plan)])


def is_lot_foe(plan, namer, table, thing):
    """Whether a thing is what lot_foe may tell."""
    return is_answer(plan, namer, table, thing, lots_needed(plan), are_lots, play)


def need_lots(plan, run):
    """Raise NoPlan or NoRun for what is no lot run of a plan."""
    need_plan(plan)
    if not are_lots(plan, run):
        raise NoRun()


def are_lots(plan, thing):
    """Whether a thing is a lot run of what is known to be a plan."""
    if not isinstance(thing, tuple) or len(thing) != len(plan):
        return False
    for item, founder in enumerate(thing):
        if not is_integer(founder) or founder not in founders(plan, thing[:item]):
            return False
    return True


def founders(plan, run):
    """What the item behind a run can have as its founder, ascending."""
    item = len(run)
    return [seen for seen in plan[item] if run[seen] == seen] + [item]


def play(plan, run, namer, table):
    """What lot_played tells of what is known to be a lot run of a plan."""
    return play_marked(plan, run, namer, table, is_right)


def is_right(table, run, names, item, other):
    """Whether the table tells, both ways about, just whether an item and an earlier one are of one lot."""
    flag = run[item] == run[other]
    if not tells_flag(table, names[item], names[other], flag):
        return False
    return tells_flag(table, names[other], names[item], flag)
