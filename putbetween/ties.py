"""Ties: documents in which items can be tied to others, and stand in groups."""

from putbetween.chains import chains
from putbetween.errors import NoName, NoRun
from putbetween.kinds import is_integer, is_number, is_rising
from putbetween.naming import put_behind, seen_of
from putbetween.plans import MOST_ITEMS, need_plan
from putbetween.ranks import turned_about
from putbetween.strangers import name_fault

# What a table may tell of one name to another one, and what it then has to tell of the other to the one.
TURNED = {"tied": "tied", "ahead": "behind", "behind": "ahead"}
SIGNS = {"tied": 0, "ahead": -1, "behind": 1}


def many_tie_names(plan):
    """The number of the plain names that can come."""
    return 2 * chains(plan) - len(plan)


def tie_names(plan, run):
    """The plain names: pairs of the chain of the item's group, and None or, if it is tied, the item."""
    need_tie_run(plan, run)
    # In each group just one item was put into a gap: the last one of the chain, for which the group stands here.
    order = []
    names = []
    for item, (word, number) in enumerate(run):
        if word == "tie":
            names.append((names[number][0], item))
            continue
        left = seen_of(plan, item, order)[number - 1] if number > 0 else None
        put_behind(order, left, item)
        names.append(((item,) if left is None else names[left][0] + (item,), None))
    return tuple(names)


def tie_standing(plan, run):
    """All groups, ascending tuples of items, in the order of their chains."""
    groups = {}
    for item, (chain, _) in enumerate(tie_names(plan, run)):
        groups.setdefault(chain, []).append(item)
    return tuple([tuple(groups[chain]) for chain in sorted(groups, key=turned_about)])


def tie_told(one, other):
    """How the item of the one name stands to that of the other one: "tied", "ahead" or "behind"."""
    if not is_tie_name(one) or not is_tie_name(other) or one == other:
        raise NoName()
    if one[0] == other[0]:
        return "tied"
    return "ahead" if turned_about(one[0]) < turned_about(other[0]) else "behind"


def is_tie_name(thing):
    """Whether a thing is a plain name of an item in some tie run of some plan."""
    if not isinstance(thing, tuple) or len(thing) != 2:
        return False
    chain, tied = thing
    if not is_rising(MOST_ITEMS, chain) or len(chain) == 0:
        return False
    return tied is None or is_number(chain[-1] + 1, MOST_ITEMS - 1, tied)


def need_tie_run(plan, run):
    """Raise NoPlan or NoRun for what is no tie run of a plan."""
    need_plan(plan)
    if not isinstance(run, tuple) or len(run) != len(plan):
        raise NoRun()
    for item, thing in enumerate(run):
        if not is_place(plan[item], run, thing):
            raise NoRun()


def is_place(seen, run, thing):
    """Whether a thing is a place for an item that has seen these, whose places in the run are known to be some."""
    if not isinstance(thing, tuple) or len(thing) != 2:
        return False
    word, number = thing
    if word == "tie":
        return is_integer(number) and number in seen
    # There are as many groups of seen items as there are seen items in gaps, to which all others are tied.
    return word == "gap" and is_number(0, len([other for other in seen if run[other][0] == "gap"]), number)


def tie_played(plan, run, namer, table):
    """The first fault of a tie run; without any "done", the names, and the groups as they stand."""
    need_tie_run(plan, run)
    names = ()
    groups = ()
    for place in run:
        fault, names, groups = put_in(plan, place, names, groups, namer, table)
        if fault is not None:
            return fault
    return ("done", names, groups)


def put_in(plan, place, names, groups, namer, table):
    """The fault behind the next item, or None; and the names and the groups as they stand then."""
    item = len(names)
    seen = seen_groups(plan[item], groups)
    view = tuple([tuple([(other, names[other]) for other in group]) for group in seen])
    name = namer(plan, item, view, place)
    fault = name_fault(names, name)
    if fault is not None:
        return fault, names, groups
    told = [told_both_ways(table, other, name) for other in names]
    fault = silent_fault(told) or place_fault(place, groups, seen, told) or round_fault(groups, told)
    if fault is not None:
        return fault, names, groups
    return None, names + (name,), with_item(groups, told)


def seen_groups(seen, groups):
    """What there is of the groups, as they stand, in the items that have been seen."""
    parts = [tuple([other for other in group if other in seen]) for group in groups]
    return [group for group in parts if group != ()]


def told_both_ways(table, one, other):
    """What the table tells of the one name to the other one; None unless it tells the same the other way about."""
    told = table(one, other)
    turned = table(other, one)
    for word, back in TURNED.items():
        if told == word and turned == back:
            return word
    return None


def silent_fault(told):
    """The fault that the table tells nothing of an earlier item and the next one; or None."""
    return ("silent", told.index(None), len(told)) if None in told else None


def place_fault(place, groups, seen, told):
    """The fault that the table tells of an earlier item and the next one what the place does not; or None."""
    item = len(told)
    word, number = place
    tied = [group for group in groups if word == "tie" and number in group]
    for other in range(item):
        if (told[other] == "tied") != any([other in group for group in tied]):
            return ("tied", other, item)
    at = number if word == "gap" else [number in group for group in seen].index(True)
    wrong = [other for group in seen[:at] for other in group if told[other] != "ahead"]
    wrong.extend([other for group in seen[at:] for other in group if told[other] == "ahead"])
    return ("against", min(wrong), item) if wrong else None


def round_fault(groups, told):
    """The fault that two earlier items and the next one fit no row of groups; or None."""
    item = len(told)
    at = {other: number for number, group in enumerate(groups) for other in group}
    for one in range(item):
        for other in range(one + 1, item):
            turns = [sign(at[one] - at[other]), SIGNS[told[other]], -SIGNS[told[one]]]
            # Who goes round by ties alone, or goes ahead and behind, comes back to where it began.
            if max(turns) != -min(turns):
                return ("round", one, other, item)
    return None


def sign(number):
    """-1 for a number below 0, 0 for 0, and 1 for one above 0."""
    if number == 0:
        return 0
    return 1 if number > 0 else -1


def with_item(groups, told):
    """The groups as they stand with the next item, of which this is told to the earlier ones."""
    item = len(told)
    ahead = [group for group in groups if told[group[0]] == "ahead"]
    tied = [other for group in groups for other in group if told[other] == "tied"]
    behind = [group for group in groups if told[group[0]] == "behind"]
    return tuple(ahead + [tuple(tied + [item])] + behind)
