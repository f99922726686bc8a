"""Strangers: what is the same for all documents when their ways of naming are tried and judged."""

from putbetween.errors import TooMany
from putbetween.kinds import is_name
from putbetween.plans import is_item

MOST_RUNS = 5000
MOST_NAMES = 600


def need_few_runs(many):
    """Raise TooMany for more runs than are gone through."""
    if many > MOST_RUNS:
        raise TooMany(MOST_RUNS)


def need_few_names(many):
    """Raise TooMany for more names than a foe asks for."""
    if many > MOST_NAMES:
        raise TooMany(MOST_NAMES)


def name_fault(names, name):
    """The fault that the name of the next item is none, or that of an earlier one; or None."""
    item = len(names)
    if not is_name(name):
        return ("name", item)
    if name in names:
        return ("same", names.index(name), item)
    return None


def remembering(namer):
    """A namer that tells what this one tells, and asks it just once for equal calls with one plan."""
    known = {}

    def asked(plan, item, view, choice):
        call = (item, view, choice)
        if call not in known:
            known[call] = namer(plan, item, view, choice)
        return known[call]

    return asked


def first_faulty(many, choices, put, run, state):
    """Of the runs of so many items that begin so, the first one with a fault, and this fault; or None.

    `choices` lists, ascending, what the item behind a run can be given. `put` is given a run and the
    state ahead of its last item, and tells the fault behind this item, or None, and the state there.
    """
    if len(run) == many:
        return None
    for choice in choices(run):
        longer = run + (choice,)
        fault, after = put(longer, state)
        if fault is not None:
            return first_run(many, choices, longer), fault
        found = first_faulty(many, choices, put, longer, after)
        if found is not None:
            return found
    return None


def first_run(many, choices, run):
    """The first of the runs of so many items that begin so."""
    while len(run) < many:
        run += (choices(run)[0],)
    return run


def is_answer(plan, namer, table, thing, needed, is_run, play):
    """Whether a thing is what a foe that needs so many names may tell of a plan, a namer and a table.

    `is_run` judges what is a run of the plan, `play` tells what is played on one.
    """
    asked = remembering(namer)

    def tell(run):
        return play(plan, run, asked, table)

    if not isinstance(thing, tuple):
        return False
    if len(thing) == 3 and thing[0] == "fault":
        return is_run(plan, thing[1]) and is_fault(thing[2], tell(thing[1]))
    if len(thing) == 2 and thing[0] == "names":
        return are_rows(plan, thing[1], needed, is_run) and are_unlike(thing[1], tell)
    return False


def is_fault(thing, told):
    """Whether a thing is the fault that is told of a run on which there is one."""
    # A flag would be equal to the number of an item.
    return told[0] != "done" and thing == told and not any([isinstance(part, bool) for part in thing])


def are_rows(plan, thing, needed, is_run):
    """Whether a thing is a list of so many pairs of a run and an item of a plan."""
    if not isinstance(thing, list) or len(thing) != needed:
        return False
    for row in thing:
        if not isinstance(row, tuple) or len(row) != 2:
            return False
        if not is_run(plan, row[0]) or not is_item(plan, row[1]):
            return False
    return True


def are_unlike(rows, tell):
    """Whether there is no fault on the runs of these rows, and the names of their items there are all unlike."""
    known = {}
    found = []
    for run, item in rows:
        if run not in known:
            known[run] = tell(run)
        told = known[run]
        if told[0] != "done":
            return False
        found.append(told[1][item])
    return len(set(found)) == len(found)
