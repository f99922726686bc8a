"""Strangers of all kinds, and what DOC.md tells of them said over as plainly as possible.

Nothing here is taken from the program."""

import functools
import itertools
import zlib

from tests import plainly


def chance(*parts):
    """A number that looks drawn, the same one for each call with the same parts."""
    return zlib.crc32(repr(parts).encode())


def is_name(thing):
    return type(thing) in (int, str)


def played(plan, run, namer, table):
    """6.2: the items are put in one by one; each pair and each triple of items is looked at."""
    names = []

    def tells(one, other):
        return table(names[one], names[other])

    def in_order(items):
        return sorted(items, key=functools.cmp_to_key(lambda one, other: -1 if tells(one, other) else 1))

    for x, gap in enumerate(run):
        seen = in_order(plan[x])
        names.append(namer(plan, x, tuple((u, names[u]) for u in seen), gap))
        if not is_name(names[x]):
            return ("name", x)
        for y in range(x):
            if names[y] == names[x]:
                return ("same", y, x)
        for y in range(x):
            both = [tells(y, x), tells(x, y)]
            if not (both[0] is True and both[1] is False) and not (both[0] is False and both[1] is True):
                return ("silent", y, x)
        for y in plan[x]:
            if tells(y, x) is not (y in seen[:gap]):
                return ("against", y, x)
        for y, z in itertools.combinations(range(x), 2):
            if tells(y, z) and tells(z, x) and tells(x, y):
                return ("round", y, z, x)
            if tells(z, y) and tells(x, z) and tells(y, x):
                return ("round", y, z, x)
    return ("done", tuple(names), tuple(in_order(range(len(plan)))))


def faulty(runs, play):
    """6.3: the first one of the runs, ascending, with a fault."""
    for run in runs:
        fault = play(run)
        if fault[0] != "done":
            return (run, fault)
    return None


def same(one, other):
    """Whether two things are alike in the kinds of all their parts, too."""
    return type(one) is type(other) and repr(one) == repr(other)


def is_answer(thing, needed, many, is_run, play):
    """7.1: whether a thing is what a foe may tell, each pair of names looked at."""
    if type(thing) is not tuple or len(thing) not in (2, 3) or type(thing[0]) is not str:
        return False
    if len(thing) == 3:
        if thing[0] != "fault" or not is_run(thing[1]):
            return False
        told = play(thing[1])
        return told[0] != "done" and same(told, thing[2])
    if thing[0] != "names" or type(thing[1]) is not list or len(thing[1]) != needed:
        return False
    for pair in thing[1]:
        if type(pair) is not tuple or len(pair) != 2 or not is_run(pair[0]):
            return False
        if type(pair[1]) is not int or not 0 <= pair[1] < many:
            return False
    told = [(play(run), item) for run, item in thing[1]]
    if any(fault[0] != "done" for fault, _ in told):
        return False
    names = [done[1][item] for done, item in told]
    return all(one != other for one, other in itertools.combinations(names, 2))


def text_of(chain):
    return ".".join(str(item) for item in chain)


def read(text):
    return tuple(int(part) for part in text.split("."))


def renumbered(draw, plan):
    """For each item its number in another order of putting in, which the plan allows too."""
    order = []
    while len(order) < len(plan):
        order.append(draw.choice([i for i in range(len(plan)) if i not in order and set(plan[i]) <= set(order)]))
    return [order.index(item) for item in range(len(plan))]


def chain_namer(numbers, merged=()):
    """Names that are right: texts of chains in other numbers. Those in `merged` are exchanged for others."""
    def chain_name(item, name):
        """The text of the item's own chain behind a name, as far as this can still be told."""
        if read(name)[-1] == numbers[item]:
            return name
        return next(one for one, other in dict(merged).items() if other == name and read(one)[-1] == numbers[item])

    def namer(plan, item, view, gap):
        elder = chain_name(*view[gap - 1]) + "." if gap else ""
        name = elder + str(numbers[item])
        return dict(merged).get(name, name)

    return namer


def chain_table(one, other):
    return plainly.is_ahead(read(one), read(other))


def numbered(texts, namer, table):
    """A way of naming with the same names, but for integers in the place of all texts of `texts`."""
    known = {text: number for number, text in enumerate(texts)}

    def back(name):
        return texts[name] if type(name) is int else name

    def namer_of_numbers(plan, item, view, gap):
        name = namer(plan, item, tuple((u, back(told)) for u, told in view), gap)
        return known.get(name, name)

    return namer_of_numbers, lambda one, other: table(back(one), back(other))


def few_namer(seed, many):
    """A namer with so few names, whatever comes."""
    return lambda plan, item, view, gap: chance(seed, item, view, gap) % many


def drawn_table(seed):
    """A table that tells something of each two names, without any order."""
    def table(one, other):
        if repr(one) > repr(other):
            return not table(other, one)
        return chance(seed, one, other) % 2 == 0
    return table


def loose_table(plan, numbers, seed):
    """A table that is right where one item has seen the other one, and otherwise tells whatever it likes."""
    items = {number: item for item, number in enumerate(numbers)}

    def table(one, other):
        x, y = items[read(one)[-1]], items[read(other)[-1]]
        if x in plan[y] or y in plan[x]:
            return chain_table(one, other)
        return drawn_table(seed)(one, other)

    return table


def now_and_then(seed, rarely, table, instead):
    """A table that now and then tells what stands instead, and otherwise what the table tells."""
    def told(one, other):
        if chance(seed, one, other) % rarely == 0:
            return instead
        return table(one, other)
    return told


def namer_with(seed, rarely, namer, instead):
    """A namer that now and then returns what stands instead."""
    def named(plan, item, view, gap):
        if chance(seed, item, view, gap) % rarely == 0:
            return instead
        return namer(plan, item, view, gap)
    return named


NO_NAMES = [None, True, False, (), (0,), [], [0], b"", b"0", {}]
NO_FLAGS = [None, 1, 0, "True", "", (), (True,), [False]]


def strangers(draw, plan):
    """Pairs of a namer and a table for a plan: right ones, and ones with faults of each kind."""
    seed = draw.randrange(10 ** 6)
    numbers = renumbered(draw, plan)
    right = chain_namer(numbers)
    texts = sorted({text_of(draw.sample(range(len(plan)), draw.randrange(min(len(plan), 3)) + 1)) for _ in plan})
    found = [
        (right, chain_table),
        numbered(texts, right, chain_table),
        (right, loose_table(plan, numbers, seed)),
        (right, drawn_table(seed)),
        (right, lambda one, other: chain_table(other, one)),
        (right, lambda one, other: one < other),
        (right, lambda one, other: True),
        (right, lambda one, other: False),
        (right, lambda one, other: int(chain_table(one, other))),
        (right, lambda one, other: True if chain_table(one, other) else None),
        (right, lambda one, other: draw_flag(seed, one, other)),
        (lambda plan, item, view, gap: item, lambda one, other: one < other),
        (lambda plan, item, view, gap: gap, lambda one, other: one < other),
        (lambda plan, item, view, gap: str(item), lambda one, other: int(one) > int(other)),
        (lambda plan, item, view, gap: item if item % 2 else str(item - 1), drawn_table(seed)),
        (lambda plan, item, view, gap: 10 ** 59 + item, drawn_table(seed)),
        (lambda plan, item, view, gap: "~" * 58 + str(item + 10), drawn_table(seed)),
        (few_namer(seed, 2), drawn_table(seed)),
        (few_namer(seed, 50), drawn_table(seed)),
        (few_namer(seed, 10 ** 9), drawn_table(seed)),
        (namer_with(seed, 4, right, draw.choice(NO_NAMES)), chain_table),
        (right, now_and_then(seed, 5, chain_table, draw.choice(NO_FLAGS))),
        (right, now_and_then(seed, 20, chain_table, True)),
        (right, now_and_then(seed, 20, chain_table, False)),
    ]
    return found


def draw_flag(seed, one, other):
    """What tells for each two names both ways about apart."""
    return chance(seed, one, other) % 2 == 0


def merging(draw, plan):
    """A stranger that is right but for two names that are one, or None for a plan with less than two chains."""
    numbers = renumbered(draw, plan)
    texts = [text_of([numbers[item] for item in chain]) for chain in plainly.all_chains(plan)]
    if len(texts) < 2:
        return None
    one, other = draw.sample(texts, 2)
    return chain_namer(numbers, {one: other}), chain_table


def descends(run, one, other):
    """Whether the one item descends from the other one."""
    return run[one] is not None and (run[one] == other or descends(run, run[one], other))


def descent_played(plan, run, namer, table):
    """11.2: the items are put in one by one; each two names are looked at both ways about."""
    names = []
    for x, elder in enumerate(run):
        names.append(namer(plan, x, tuple((u, run[u], names[u]) for u in plan[x]), elder))
        if not is_name(names[x]):
            return ("name", x)
        for y in range(x):
            if names[y] == names[x]:
                return ("same", y, x)
        for y in range(x):
            for one, other in ((x, y), (y, x)):
                if not same(table(names[one], names[other]), descends(run, one, other)):
                    return ("wrong", y, x)
    return ("done", tuple(names))


def all_descents(plan):
    """All descent runs, ascending, None ahead of all items."""
    return list(itertools.product(*[(None,) + row for row in plan]))


def is_descents(plan, thing):
    if type(thing) is not tuple or len(thing) != len(plan):
        return False
    return all(elder is None or type(elder) is int and elder in row for elder, row in zip(thing, plan))


def descent_namer(numbers):
    """Names that are right: texts of chains in other numbers."""
    def namer(plan, item, view, elder):
        told = [name for other, _, name in view if other == elder]
        return ".".join(told + [str(numbers[item])])
    return namer


def descent_table(one, other):
    return read(one)[:len(read(other))] == read(other) and one != other


def descent_strangers(draw, plan):
    """Pairs of a namer and a table for the descents of a plan: right ones, and ones with faults of each kind."""
    seed = draw.randrange(10 ** 6)
    numbers = draw.sample(range(100), len(plan))
    right = descent_namer(numbers)
    one, other = draw.sample(range(100, 200), 2)
    return [
        (right, descent_table),
        (whole_name, whole_table),
        (whole_name, now_and_then(seed, 8, whole_table, True)),
        (namer_with(seed, 6, whole_name, "0;0:-"), whole_table),
        (namer_with(seed, 9, right, str(one)), descent_table),
        (namer_with(seed, 9, right, f"{one}.{other}"), descent_table),
        (right, lambda one, other: descent_table(other, one)),
        (right, lambda one, other: False),
        (right, lambda one, other: True),
        (right, lambda one, other: int(descent_table(one, other))),
        (right, lambda one, other: descent_table(one, other) or None),
        (right, now_and_then(seed, 5, descent_table, draw.choice(NO_FLAGS))),
        (right, now_and_then(seed, 20, descent_table, False)),
        (namer_with(seed, 4, right, draw.choice(NO_NAMES)), descent_table),
        (lambda plan, item, view, elder: item, lambda one, other: False),
        (lambda plan, item, view, elder: item, lambda one, other: one > other),
        (lambda plan, item, view, elder: -1 if elder is None else elder, lambda one, other: False),
        (lambda plan, item, view, elder: item if elder is None else str(item), lambda one, other: type(one) is str),
        (few_namer(seed, 3), lambda one, other: False),
        (few_namer(seed, 60), lambda one, other: draw_flag(seed, one, other)),
        (few_namer(seed, 10 ** 9), lambda one, other: draw_flag(seed, one, other)),
    ]


def whole_name(plan, item, view, elder):
    """A name that tells all that there is to tell: the item, and the elders of all that it has seen and its own."""
    elders = [(u, above) for u, above, _ in view] + [(item, elder)]
    return f"{item};" + ",".join(f"{u}:{'-' if above is None else above}" for u, above in elders)


def whole_table(one, other):
    """Whether the one item descends from the other one, followed up along the elders."""
    item, told = one.split(";")
    elders = dict(pair.split(":") for pair in told.split(","))
    while elders.get(item, "-") not in ("-", other.split(";")[0]):
        item = elders[item]
    return elders.get(item, "-") != "-"
