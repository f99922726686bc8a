"""Ties: what DOC.md tells of them said over as plainly as possible, and strangers of all kinds for them.

Nothing here is taken from the program."""

import functools
import itertools

from tests import plainly, strange


def tied(run, one, other):
    """Whether the run ties two items together, followed along its ties from both."""
    reached = [{one}, {other}]
    for group in reached:
        while True:
            longer = set(group)
            for x, (word, u) in enumerate(run):
                if word == "tie" and (x in group or u in group):
                    longer |= {x, u}
            if longer == group:
                break
            group |= longer
    return other in reached[0]


def groups_of(run, items):
    """The groups of these items, ascending lists, in no order."""
    found = []
    for x in items:
        for group in found:
            if tied(run, group[0], x):
                group.append(x)
                break
        else:
            found.append([x])
    return found


def is_place(plan, run, x, thing):
    """Whether a thing is a place for the item x, whose earlier items have the places of the run."""
    if type(thing) is not tuple or len(thing) != 2 or type(thing[0]) is not str or type(thing[1]) is not int:
        return False
    if thing[0] == "tie":
        return thing[1] in plan[x]
    return thing[0] == "gap" and 0 <= thing[1] <= len(groups_of(run[:x], plan[x]))


def is_run(plan, thing):
    if type(thing) is not tuple or len(thing) != len(plan):
        return False
    return all(is_place(plan, thing, x, thing[x]) for x in range(len(plan)))


def places(plan, run):
    """The places that the item behind a run can have."""
    x = len(run)
    gaps = [("gap", g) for g in range(len(groups_of(run, plan[x])) + 1)]
    return gaps + [("tie", u) for u in plan[x]]


def all_runs(plan):
    runs = [()]
    for _ in plan:
        runs = [run + (place,) for run in runs for place in places(plan, run)]
    return runs


def drawn_run(draw, plan):
    run = ()
    for _ in plan:
        choices = places(plan, run)
        kind = draw.choice(["gap", "tie"])
        run += (draw.choice([place for place in choices if place[0] == kind] or choices),)
    return run


def names(plan, run):
    """15.1: the plain names, the items being put in one by one."""
    found = []
    for x, (word, number) in enumerate(run):
        if word == "tie":
            found.append((found[number][0], x))
            continue
        chains = plainly.in_order({found[group[0]][0] for group in groups_of(run[:x], plan[x])})
        found.append(((chains[number - 1] if number else ()) + (x,), None))
    return tuple(found)


def standing(plan, run):
    named = names(plan, run)
    groups = groups_of(run, range(len(plan)))
    order = plainly.in_order([named[group[0]][0] for group in groups])
    return tuple(tuple(x for x in range(len(plan)) if named[x][0] == chain) for chain in order)


def is_name(thing):
    if type(thing) is not tuple or len(thing) != 2 or type(thing[0]) is not tuple or not thing[0]:
        return False
    chain, tie = thing
    if not all(type(item) is int and 0 <= item <= 39 for item in chain):
        return False
    if not all(one < other for one, other in itertools.pairwise(chain)):
        return False
    return tie is None or type(tie) is int and chain[-1] < tie <= 39


def sign(word):
    return {"tied": 0, "ahead": -1, "behind": 1}[word]


def fits(words):
    """Whether some row of groups is just what is told of y to z, of z to x, and of y to x."""
    for y, z, x in itertools.product(range(3), repeat=3):
        if all((one > other) - (one < other) == sign(word) for (one, other), word in zip([(y, z), (z, x), (y, x)], words)):
            return True
    return False


def played(plan, run, namer, table):
    """15.3: the items are put in one by one; each pair and each triple of items is looked at."""
    named = []

    def told(one, other):
        return table(named[one], named[other])

    def in_order(groups):
        return sorted(groups, key=functools.cmp_to_key(lambda one, other: sign(told(one[0], other[0]))))

    for x, place in enumerate(run):
        seen = in_order(groups_of(run[:x], plan[x]))
        named.append(namer(plan, x, tuple(tuple((u, named[u]) for u in group) for group in seen), place))
        if not strange.is_name(named[x]):
            return ("name", x)
        for y in range(x):
            if named[y] == named[x]:
                return ("same", y, x)
        for y in range(x):
            both = (told(y, x), told(x, y))
            if not any(strange.same(both, pair) for pair in [("tied", "tied"), ("ahead", "behind"), ("behind", "ahead")]):
                return ("silent", y, x)
        for y in range(x):
            if (told(y, x) == "tied") != tied(run[:x + 1], y, x):
                return ("tied", y, x)
        for y in plan[x]:
            at = [y in group for group in seen].index(True)
            own = place[1] if place[0] == "gap" else [place[1] in group for group in seen].index(True)
            wanted = "ahead" if at < own else "behind"
            if place[0] == "tie" and at == own:
                wanted = "tied"
            if told(y, x) != wanted:
                return ("against", y, x)
        for y, z in itertools.combinations(range(x), 2):
            if not fits([told(y, z), told(z, x), told(y, x)]):
                return ("round", y, z, x)
    groups = in_order(groups_of(run, range(len(plan))))
    return ("done", tuple(named), tuple(tuple(group) for group in groups))


def chain_of(name):
    return tuple(int(part) for part in name.split("=")[0].split("."))


def right_namer(numbers):
    """Names that are right: texts of the plain names in other numbers."""
    def namer(plan, item, view, place):
        word, number = place
        if word == "tie":
            group = next(group for group in view if number in [u for u, _ in group])
            return group[0][1].split("=")[0] + f"={numbers[item]}"
        ahead = view[number - 1][0][1].split("=")[0] + "." if number else ""
        return ahead + str(numbers[item])

    return namer


def right_table(one, other):
    if chain_of(one) == chain_of(other):
        return "tied"
    return "ahead" if plainly.is_ahead(chain_of(one), chain_of(other)) else "behind"


WORDS = ["tied", "ahead", "behind"]
NO_WORDS = [None, True, False, 0, "", "Tied", "ahead ", b"tied", ("tied",), ["ahead"], "before", {}]


def drawn_table(seed, words=WORDS):
    """A table that tells something of each two names, the right thing the other way about."""
    def table(one, other):
        if repr(one) > repr(other):
            return {"tied": "tied", "ahead": "behind", "behind": "ahead"}[table(other, one)]
        return words[strange.chance(seed, one, other) % len(words)]
    return table


def loose_table(plan, numbers, seed):
    """A table that is right where one item has seen the other one, and otherwise right of ties alone."""
    items = {number: item for item, number in enumerate(numbers)}

    def item_of(name):
        return items[int(name.replace("=", ".").split(".")[-1])]

    def table(one, other):
        x, y = item_of(one), item_of(other)
        if x in plan[y] or y in plan[x] or chain_of(one) == chain_of(other):
            return right_table(one, other)
        return drawn_table(seed, ["ahead", "behind"])(one, other)

    return table


def both_now_and_then(seed, rarely, table):
    """A table that now and then tells something else, and the right thing to this the other way about."""
    drawn = drawn_table(seed)

    def told(one, other):
        number = strange.chance(seed, *sorted((repr(one), repr(other))))
        return drawn(one, other) if number % rarely == 0 else table(one, other)

    return told


class Whole:
    """A stranger whose names tell of the item, and of all that it has seen, in its order; unrelated items stand as drawn."""

    def __init__(self, seed):
        self.seed = seed
        self.known = {}

    def namer(self, plan, item, view, place):
        name = f"{item}: {place} {[[u for u, _ in group] for group in view]}"
        self.known[name] = (item, [[u for u, _ in group] for group in view], place)
        return name

    def table(self, one, other):
        (x, _, _), (y, groups, place) = self.known[one], self.known[other]
        if x > y:
            return {"tied": "tied", "ahead": "behind", "behind": "ahead"}[self.table(other, one)]
        at = [x in group for group in groups]
        if True not in at:
            return drawn_table(self.seed, ["ahead", "behind"])(one, other)
        own = place[1] if place[0] == "gap" else [place[1] in group for group in groups].index(True)
        if place[0] == "tie" and at.index(True) == own:
            return "tied"
        return "ahead" if at.index(True) < own else "behind"


def strangers(draw, plan):
    """Pairs of a namer and a table for the ties of a plan: right ones, and ones with faults of each kind."""
    seed = draw.randrange(10 ** 6)
    numbers = strange.renumbered(draw, plan)
    right = right_namer(numbers)
    whole = Whole(seed)
    by_item = lambda plan, item, view, place: item
    return [
        (right, right_table),
        (right, loose_table(plan, numbers, seed)),
        (whole.namer, whole.table),
        (whole.namer, both_now_and_then(seed, 9, whole.table)),
        (right, both_now_and_then(seed, 9, right_table)),
        (right, both_now_and_then(seed, 30, right_table)),
        (right, strange.now_and_then(seed, 9, right_table, draw.choice(NO_WORDS))),
        (right, strange.now_and_then(seed, 12, right_table, draw.choice(WORDS))),
        (right, lambda one, other: right_table(other, one)),
        (right, lambda one, other: "tied"),
        (right, lambda one, other: "ahead"),
        (right, lambda one, other: True if right_table(one, other) == "tied" else right_table(one, other)),
        (right, drawn_table(seed)),
        (right, drawn_table(seed, ["ahead", "behind"])),
        (strange.namer_with(seed, 4, right, draw.choice(strange.NO_NAMES)), right_table),
        (strange.namer_with(seed, 3, right, "7.8"), right_table),
        (by_item, lambda one, other: "ahead" if one < other else "behind"),
        (by_item, lambda one, other: "ahead" if one > other else "behind"),
        (by_item, drawn_table(seed)),
        (lambda plan, item, view, place: item if item % 2 else str(item - 1), drawn_table(seed)),
        (strange.few_namer(seed, 4), drawn_table(seed)),
        (strange.few_namer(seed, 10 ** 9), drawn_table(seed, ["ahead", "behind"])),
        (strange.few_namer(seed, 10 ** 9), drawn_table(seed)),
    ]
