"""Strangers: what is the same for all documents when their ways of naming are tried and judged."""

from putbetween.kinds import is_number


def remembering(namer):
    """A namer that tells what this one tells, and asks it just once for equal calls with one plan."""
    known = {}

    def asked(plan, item, view, choice):
        call = (item, view, choice)
        if call not in known:
            known[call] = namer(plan, item, view, choice)
        return known[call]

    return asked


def first_faulty(many, choices, put, run, state):
    """Of the runs of so many items that begin so, the first one with a fault, and this fault; or None.

    `choices` lists, ascending, what the item behind a run can be given. `put` is given a run and the
    state ahead of its last item, and tells the fault behind this item, or None, and the state there.
    """
    if len(run) == many:
        return None
    for choice in choices(run):
        longer = run + (choice,)
        fault, after = put(longer, state)
        if fault is not None:
            return first_run(many, choices, longer), fault
        found = first_faulty(many, choices, put, longer, after)
        if found is not None:
            return found
    return None


def first_run(many, choices, run):
    """The first of the runs of so many items that begin so."""
    while len(run) < many:
        run += (choices(run)[0],)
    return run


def is_answer(thing, needed, many, is_run, play):
    """Whether a thing is what a foe may tell who needs so many names in a plan of so many items."""
    if not isinstance(thing, tuple) or len(thing) == 0 or not isinstance(thing[0], str):
        return False
    if thing[0] == "fault" and len(thing) == 3:
        return is_run(thing[1]) and is_fault(thing[2], play(thing[1]))
    if thing[0] == "names" and len(thing) == 2:
        return are_rows(thing[1], needed, many, is_run) and are_unlike(thing[1], play)
    return False


def is_fault(thing, told):
    """Whether a thing is the fault that is told of a run on which there is one."""
    if told[0] == "done" or not isinstance(thing, tuple):
        return False
    # A flag would be equal to the number of an item.
    return thing == told and not any([isinstance(part, bool) for part in thing])


def are_rows(thing, needed, many, is_run):
    """Whether a thing is a list of so many pairs of a run and an item."""
    if not isinstance(thing, list) or len(thing) != needed:
        return False
    for row in thing:
        if not isinstance(row, tuple) or len(row) != 2:
            return False
        if not is_run(row[0]) or not is_number(0, many - 1, row[1]):
            return False
    return True


def are_unlike(rows, play):
    """Whether there is no fault on the runs of these rows, and the names of their items there are all unlike."""
    known = {}
    found = []
    for run, item in rows:
        if run not in known:
            known[run] = play(run)
        told = known[run]
        if told[0] != "done":
            return False
        found.append(told[1][item])
    return len(set(found)) == len(found)
