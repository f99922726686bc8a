"""Webs: each item chooses a kind of tie for each one that it has seen, and names tell these kinds."""

from putbetween.errors import NoKinds, NoRun
from putbetween.kinds import is_integer, is_number
from putbetween.marked import first_marked, play_marked
from putbetween.plans import need_plan
from putbetween.strangers import is_answer, need_few_names, need_few_runs, remembering

MOST_KINDS = 5


def webs_needed(plan, kinds):
    """How few names are enough: as many for each item as it has choices of ties."""
    need_plan(plan)
    need_kinds(kinds)
    return sum([power(kinds, len(seen)) for seen in plan])


def many_webs(plan, kinds):
    """The number of the web runs."""
    need_plan(plan)
    need_kinds(kinds)
    return power(kinds, sum([len(seen) for seen in plan]))


def power(base, exponent):
    """The base to the power of the exponent."""
    product = 1
    for _ in range(exponent):
        product = product * base
    return product


def web_names(plan, kinds, run):
    """The plain names: pairs of the item and its ties, these being pairs of a seen item and a kind."""
    need_webs(plan, kinds, run)
    return tuple(enumerate(ties_of(plan, run)))


def web_played(plan, kinds, run, namer, table):
    """The first fault of a web run; without any "done" and the names."""
    need_webs(plan, kinds, run)
    return play(plan, run, namer, table)


def web_faulty(plan, kinds, namer, table):
    """The pair of the first web run with a fault and this fault, or None."""
    need_few_runs(many_webs(plan, kinds))

    def choices(begun):
        seen = plan[len(begun)]
        return [tuple(zip(seen, chosen)) for chosen in all_kinds(len(seen), kinds)]

    found = first_marked(plan, choices, namer, table, is_right)
    if found is None:
        return None
    ties, fault = found
    return tuple([tuple([kind for _, kind in row]) for row in ties]), fault


def web_foe(plan, kinds, namer, table):
    """A web run with its fault, or as many runs and items, with names all unlike, as there are names needed."""
    need_few_names(webs_needed(plan, kinds))
    asked = remembering(namer)
    rows = []
    for item, seen in enumerate(plan):
        for chosen in all_kinds(len(seen), kinds):
            run = liked(plan, dict(zip(seen, chosen)))
            told = play(plan, run, asked, table)
            if told[0] != "done":
                return ("fault", run, told)
            rows.append((run, item))
    return ("names", rows)


# On these runs each item is liked in one way by all that have seen it, so that a name hangs on how those
# that its item has seen are liked. Of two rows with one name take the least item that just one of the two
# items has seen, or that they like otherwise. If it is one of these two, or there is none, one run has the
# name twice. Otherwise it has one name itself on both runs, and the table is wrong on one of them.


def liked(plan, liking):
    """The web run on which each item is liked as told, by all that have seen it; in the first way if not told."""
    return tuple([tuple([liking.get(other, 0) for other in seen]) for seen in plan])


def is_web_foe(plan, kinds, namer, table, thing):
    """Whether a thing is what web_foe may tell."""
    many = webs_needed(plan, kinds)

    def is_run(one, run):
        return are_webs(one, kinds, run)

    return is_answer(plan, namer, table, thing, many, is_run, play)


def need_kinds(kinds):
    """Raise NoKinds for what is no number of kinds of ties."""
    if not is_number(1, MOST_KINDS, kinds):
        raise NoKinds()


def need_webs(plan, kinds, run):
    """Raise NoPlan, NoKinds or NoRun for what is no web run of a plan."""
    need_plan(plan)
    need_kinds(kinds)
    if not are_webs(plan, kinds, run):
        raise NoRun()


def are_webs(plan, kinds, thing):
    """Whether a thing is a web run of what is known to be a plan."""
    if not isinstance(thing, tuple) or len(thing) != len(plan):
        return False
    for seen, row in zip(plan, thing):
        if not isinstance(row, tuple) or len(row) != len(seen):
            return False
        if not all([is_number(0, kinds - 1, kind) for kind in row]):
            return False
    return True


def all_kinds(many, kinds):
    """The ascending list of all tuples of so many kinds."""
    rows = [()]
    for _ in range(many):
        rows = [row + (kind,) for row in rows for kind in range(kinds)]
    return rows


def ties_of(plan, run):
    """For each item of a web run the pairs of a seen item and the kind of the tie to it."""
    return tuple([tuple(zip(seen, row)) for seen, row in zip(plan, run)])


def play(plan, run, namer, table):
    """What web_played tells of what is known to be a web run of a plan."""
    return play_marked(plan, ties_of(plan, run), namer, table, is_right)


def is_right(table, ties, names, item, other):
    """Whether the table tells, both ways about, just the kind of the tie of an item and an earlier one."""
    kind = dict(ties[item]).get(other)
    if not tells_kind(table(names[item], names[other]), kind):
        return False
    return tells_kind(table(names[other], names[item]), kind)


def tells_kind(told, kind):
    """Whether what a table told is just this kind, or None where there is no tie."""
    return told is None if kind is None else is_integer(told) and told == kind
