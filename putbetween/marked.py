"""Documents in which each item bears a mark (its elder, its founder, its ties), and how strangers are played there.

`is_right` is given a table, the marks, the names, an item and an earlier one, and judges whether the table
tells of the two names, both ways about, just what the marks tell of the two items.
"""

from putbetween.strangers import first_faulty, name_fault


def play_marked(plan, marks, namer, table, is_right):
    """The first fault of the items with these marks; without any "done" and the names."""
    names = ()
    for _ in plan:
        fault, names = put_marked(plan, marks, names, namer, table, is_right)
        if fault is not None:
            return fault
    return ("done", names)


def put_marked(plan, marks, names, namer, table, is_right):
    """The fault behind the next item, or None; and the names then."""
    item = len(names)
    view = tuple([(seen, marks[seen], names[seen]) for seen in plan[item]])
    name = namer(plan, item, view, marks[item])
    fault = name_fault(names, name)
    if fault is not None:
        return fault, names
    longer = names + (name,)
    for other in range(item):
        if not is_right(table, marks, longer, item, other):
            return ("wrong", other, item), names
    return None, longer


def first_marked(plan, choices, namer, table, is_right):
    """The first marks with a fault, and this fault; or None. `choices` lists what can stand behind some marks."""
    def put(marks, names):
        return put_marked(plan, marks, names, namer, table, is_right)

    return first_faulty(len(plan), choices, put, (), ())


def tells_flag(table, one, other, flag):
    """Whether the table tells just this flag of the one name to the other one."""
    told = table(one, other)
    return told is True if flag else told is False
