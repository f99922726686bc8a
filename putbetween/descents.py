"""Descents: each item has an elder or none, and names tell which item descends from which."""

from putbetween.chains import chains
from putbetween.errors import NoRun
from putbetween.kinds import is_integer
from putbetween.marked import first_marked, play_marked, tells_flag
from putbetween.plans import need_plan
from putbetween.ranks import all_chains
from putbetween.runs import many_runs
from putbetween.strangers import is_answer, need_few_names, need_few_runs, remembering


def many_descents(plan):
    """The number of the descent runs."""
    # An item has as many elders to choose from, none among them, as it has gaps.
    return many_runs(plan)


def descent_names(plan, run):
    """The plain names: each the elder's name with the item behind it."""
    need_descents(plan, run)
    names = []
    for item, elder in enumerate(run):
        names.append((item,) if elder is None else names[elder] + (item,))
    return tuple(names)


def descent_played(plan, run, namer, table):
    """The first fault of a descent run; without any "done" and the names."""
    need_descents(plan, run)
    return play(plan, run, namer, table)


def descent_faulty(plan, namer, table):
    """The pair of the first descent run with a fault and this fault, or None."""
    need_few_runs(many_descents(plan))

    def choices(run):
        return [None] + list(plan[len(run)])

    return first_marked(plan, choices, namer, table, is_right)


def descent_foe(plan, namer, table):
    """A descent run with its fault, or as many runs and items, with names all unlike, as there are chains."""
    need_few_names(chains(plan))
    asked = remembering(namer)
    rows = []
    for chain in all_chains(plan):
        run = nearest(plan, chain)
        told = play(plan, run, asked, table)
        if told[0] != "done":
            return ("fault", run, told)
        rows.append((run, chain[-1]))
    # Where two of these runs are first unlike, one gives an item an elder that has one name on both: from
    # it descends the item of the one row and not that of the other one. So no two names are one.
    return ("names", rows)


def nearest(plan, chain):
    """The descent run on which each item descends from all items of a chain that it has seen."""
    return tuple([max([item for item in chain if item in seen], default=None) for seen in plan])


def is_descent_foe(plan, namer, table, thing):
    """Whether a thing is what descent_foe may tell."""
    return is_answer(plan, namer, table, thing, chains(plan), are_descents, play)


def need_descents(plan, run):
    """Raise NoPlan or NoRun for what is no descent run of a plan."""
    need_plan(plan)
    if not are_descents(plan, run):
        raise NoRun()


def are_descents(plan, thing):
    """Whether a thing is a descent run of what is known to be a plan."""
    if not isinstance(thing, tuple) or len(thing) != len(plan):
        return False
    return all([elder is None or is_integer(elder) and elder in seen for elder, seen in zip(thing, plan)])


def play(plan, run, namer, table):
    """What descent_played tells of what is known to be a descent run of a plan."""
    return play_marked(plan, run, namer, table, is_right)


def is_right(table, run, names, item, other):
    """Whether the table tells just which of an item and an earlier one descends from the other one."""
    if not tells_flag(table, names[item], names[other], descends(run, item, other)):
        return False
    return tells_flag(table, names[other], names[item], False)


def descends(run, item, other):
    """Whether the one item descends from the other one."""
    elder = run[item]
    while elder is not None and elder > other:
        elder = run[elder]
    return elder == other
