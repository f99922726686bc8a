"""Rooms: documents in which each item opens rooms for further items."""

from putbetween.errors import NoName, NoRooms, NoRun
from putbetween.kinds import is_integer, is_number
from putbetween.plans import MOST_ITEMS, need_plan

MOST_ROOMS = 5


def many_room_runs(plan, rooms):
    """The number of the room runs."""
    need_plan(plan)
    need_rooms(rooms)
    many = 1
    for seen in plan:
        many = many * (1 + len(seen) * (rooms + 1))
    return many


def document(plan, rooms, run):
    """The document behind a room run: rows of pairs of an item and the rows in its rooms."""
    need_room_run(plan, rooms, run)
    first = []
    opened = [[[] for _ in range(rooms)] for _ in plan]
    rows = []
    for item, mark in enumerate(run):
        row = row_at(mark, first, rows, opened)
        elder, number = (None, None) if mark is None else mark
        row.insert(row.index(elder) + 1 if number == 0 else 0, item)
        rows.append(row)
    # What stands in the rooms of an item was put in behind it.
    pairs = {}
    for item in reversed(range(len(plan))):
        pairs[item] = (item, tuple([tuple([pairs[other] for other in row]) for row in opened[item]]))
    return tuple([pairs[item] for item in first])


def row_at(mark, first, rows, opened):
    """The row in which a mark is; `rows` has that of each item so far."""
    if mark is None:
        return first
    elder, number = mark
    return rows[elder] if number == 0 else opened[elder][number - 1]


def room_names(plan, rooms, run):
    """The plain names: the marks on the way to each item, each with the item that was put there."""
    need_room_run(plan, rooms, run)
    names = []
    for item, mark in enumerate(run):
        if mark is None:
            names.append(((0, item),))
        else:
            elder, number = mark
            names.append(names[elder] + ((number, item),))
    return tuple(names)


def room_told(one, other):
    """How the item of the one name stands to that of the other one."""
    if not is_room_name(one) or not is_room_name(other) or one == other:
        raise NoName()
    same = 0
    while same < min(len(one), len(other)) and one[same] == other[same]:
        same += 1
    if same == len(other):
        number = one[same][0]
        return ("in", number) if number > 0 else "behind"
    if same == len(one):
        number = other[same][0]
        return ("holds", number) if number > 0 else "ahead"
    return "ahead" if reading_place(one[same]) < reading_place(other[same]) else "behind"


def reading_place(step):
    """What is less for the one of two steps from one item that is read ahead of the other one."""
    number, item = step
    # The rooms are read ahead of what stands behind; at one place what was put in later stands ahead.
    return (number if number > 0 else MOST_ROOMS + 1), -item


def need_rooms(rooms):
    """Raise NoRooms for what is no number of rooms."""
    if not is_number(0, MOST_ROOMS, rooms):
        raise NoRooms()


def need_room_run(plan, rooms, run):
    """Raise NoPlan, NoRooms or NoRun for what is no room run of a plan."""
    need_plan(plan)
    need_rooms(rooms)
    if not isinstance(run, tuple) or len(run) != len(plan):
        raise NoRun()
    if not all([is_mark(seen, rooms, mark) for seen, mark in zip(plan, run)]):
        raise NoRun()


def is_mark(seen, rooms, thing):
    """Whether a thing is a mark for an item that has seen these."""
    if thing is None:
        return True
    if not isinstance(thing, tuple) or len(thing) != 2:
        return False
    elder, number = thing
    return is_integer(elder) and elder in seen and is_number(0, rooms, number)


def is_room_name(thing):
    """Whether a thing is a plain name of some plan with some rooms."""
    if not isinstance(thing, tuple) or len(thing) == 0:
        return False
    least = 0
    for at, step in enumerate(thing):
        if not isinstance(step, tuple) or len(step) != 2:
            return False
        number, item = step
        if not is_number(0, MOST_ROOMS if at > 0 else 0, number) or not is_number(least, MOST_ITEMS - 1, item):
            return False
        least = item + 1
    return True
