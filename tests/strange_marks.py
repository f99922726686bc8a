"""Lots and webs: what DOC.md tells of them said over as plainly as possible, and strangers of all kinds for them.

Nothing here is taken from the program but, in `functions`, what is to be held against this."""

import functools
import itertools
import types

from putbetween import lots, webs
from tests import plainly, strange


def played(plan, marks, namer, table, due):
    """12.2, 13.2: the items are put in one by one; each two names are looked at both ways about."""
    names = []
    for x in range(len(plan)):
        names.append(namer(plan, x, tuple((u, marks[u], names[u]) for u in plan[x]), marks[x]))
        if not strange.is_name(names[x]):
            return ("name", x)
        for y in range(x):
            if names[y] == names[x]:
                return ("same", y, x)
        for y in range(x):
            for one, other in ((x, y), (y, x)):
                if not strange.same(table(names[one], names[other]), due(marks, one, other)):
                    return ("wrong", y, x)
    return ("done", tuple(names))


class Lots:
    """12: each item founds a lot or joins one."""

    no_answers = strange.NO_FLAGS

    def runs(self, plan):
        """All lot runs, ascending."""
        founders = [row + (item,) for item, row in enumerate(plan)]
        return [run for run in itertools.product(*founders) if self.is_run(plan, run)]

    def is_run(self, plan, thing):
        if type(thing) is not tuple or len(thing) != len(plan):
            return False
        for item, founder in enumerate(thing):
            if type(founder) is not int:
                return False
            if founder != item and (founder not in plan[item] or thing[founder] != founder):
                return False
        return True

    def drawn_run(self, draw, plan):
        run = ()
        for item, row in enumerate(plan):
            run += (draw.choice([u for u in row if run[u] == u] + [item]),)
        return run

    def marks(self, plan, run):
        return run

    def due(self, marks, one, other):
        return marks[one] == marks[other]

    def names(self, plan):
        """All plain names that can come, without looking at runs."""
        return [(u, x) for x, row in enumerate(plan) for u in row] + [(x, x) for x in range(len(plan))]

    def plain_name(self, item, mark):
        return mark, item

    def text(self, numbers, name):
        founder, item = name
        return f"{numbers[founder]}/{numbers[item]}"

    def table(self, one, other):
        return one.split("/")[0] == other.split("/")[0]

    def other_answer(self, answer, seed):
        return not answer

    def drawn_answer(self, number):
        return number % 2 == 0

    def functions(self, plan):
        """What the program has for a plan."""
        return types.SimpleNamespace(
            names=functools.partial(lots.lot_names, plan), played=functools.partial(lots.lot_played, plan),
            faulty=functools.partial(lots.lot_faulty, plan), foe=functools.partial(lots.lot_foe, plan),
            is_foe=functools.partial(lots.is_lot_foe, plan), needed=functools.partial(lots.lots_needed, plan),
            many=functools.partial(lots.many_lots, plan))


class Webs:
    """13: each item chooses a kind of tie for each one that it has seen."""

    no_answers = ["0", "", (), (0,), [0], True, False, -1, 5, b"0", {}]

    def __init__(self, kinds):
        self.kinds = kinds

    def runs(self, plan):
        """All web runs, ascending."""
        rows = [list(itertools.product(range(self.kinds), repeat=len(row))) for row in plan]
        return list(itertools.product(*rows))

    def is_run(self, plan, thing):
        if type(thing) is not tuple or len(thing) != len(plan):
            return False
        for row, seen in zip(thing, plan):
            if type(row) is not tuple or len(row) != len(seen):
                return False
            if not all(type(kind) is int and 0 <= kind < self.kinds for kind in row):
                return False
        return True

    def drawn_run(self, draw, plan):
        return tuple(tuple(draw.randrange(self.kinds) for _ in row) for row in plan)

    def marks(self, plan, run):
        return tuple(tuple((seen, kind) for seen, kind in zip(row, kinds)) for row, kinds in zip(plan, run))

    def due(self, marks, one, other):
        for seen, kind in marks[max(one, other)]:
            if seen == min(one, other):
                return kind
        return None

    def names(self, plan):
        """All plain names that can come, without looking at runs."""
        found = []
        for item, row in enumerate(plan):
            for kinds in itertools.product(range(self.kinds), repeat=len(row)):
                found.append((item, tuple(zip(row, kinds))))
        return found

    def plain_name(self, item, mark):
        return item, mark

    def text(self, numbers, name):
        item, ties = name
        return f"{numbers[item]}/" + ",".join(f"{numbers[seen]}:{kind}" for seen, kind in ties)

    def table(self, one, other):
        for name, told in ((one, other), (other, one)):
            ties = dict(pair.split(":") for pair in name.split("/")[1].split(",") if pair)
            if told.split("/")[0] in ties:
                return int(ties[told.split("/")[0]])
        return None

    def other_answer(self, answer, seed):
        return [kind for kind in (*range(self.kinds), None) if kind is not answer][seed % self.kinds]

    def drawn_answer(self, number):
        return (*range(self.kinds), None)[number % (self.kinds + 1)]

    def functions(self, plan):
        """What the program has for a plan."""
        return types.SimpleNamespace(
            names=functools.partial(webs.web_names, plan, self.kinds),
            played=functools.partial(webs.web_played, plan, self.kinds),
            faulty=functools.partial(webs.web_faulty, plan, self.kinds),
            foe=functools.partial(webs.web_foe, plan, self.kinds),
            is_foe=functools.partial(webs.is_web_foe, plan, self.kinds),
            needed=functools.partial(webs.webs_needed, plan, self.kinds),
            many=functools.partial(webs.many_webs, plan, self.kinds))


def is_answer(document, plan, namer, table, thing):
    """Whether a thing is what the foe may tell, each pair of names looked at."""
    def play(run):
        return played(plan, document.marks(plan, run), namer, table, document.due)

    return strange.is_answer(
        thing, len(document.names(plan)), len(plan), lambda run: document.is_run(plan, run), play)


def right_namer(document, numbers, exchanged=()):
    """Names that are right: texts of the plain names in other numbers. Those in `exchanged` become others."""
    def namer(plan, item, view, mark):
        name = document.text(numbers, document.plain_name(item, mark))
        return dict(exchanged).get(name, name)

    return namer


def both_ways(table):
    """What tells of two names the same in both orders."""
    return lambda one, other: table(*sorted((one, other), key=repr))


def told_now_and_then(document, seed, rarely, table):
    """A table that tells of two names now and then, in both orders, something else than is right."""
    def told(one, other):
        number = strange.chance(seed, one, other)
        answer = table(one, other)
        return document.other_answer(answer, number // rarely) if number % rarely == 0 else answer
    return told


class Whole:
    """A stranger whose names tell all that there is to tell: the item, all marks that it knows of, and its own."""

    def __init__(self, document):
        self.document = document
        self.known = {}

    def namer(self, plan, item, view, mark):
        marks = {u: told for u, told, _ in view}
        marks[item] = mark
        name = f"{item} of {marks}"
        self.known[name] = (item, marks)
        return name

    def table(self, one, other):
        (x, marks), (y, others) = self.known[one], self.known[other]
        return self.document.due({**others, **marks}, x, y)


class Greedy:
    """A stranger that gives each item, on all runs one behind another, the least old name that may still be right."""

    def __init__(self, document, plan, runs):
        self.known = {}
        self.answers = {}
        self.many = 0
        for run in runs:
            marks = document.marks(plan, run)
            names = []
            for x in range(len(plan)):
                view = tuple((u, marks[u], names[u]) for u in plan[x])
                due = [document.due(marks, x, y) for y in range(x)]
                key = (x, view, marks[x])
                if key not in self.known:
                    self.known[key] = self.least_name(names, due)
                names.append(self.known[key])
                for y in range(x):
                    self.answers.setdefault(frozenset((names[x], names[y])), due[y])

    def least_name(self, names, due):
        for name in range(self.many):
            pairs = [(frozenset((name, other)), answer) for other, answer in zip(names, due)]
            if name not in names and all(self.answers.get(pair, answer) is answer for pair, answer in pairs):
                return name
        self.many += 1
        return self.many - 1

    def namer(self, plan, item, view, mark):
        return self.known.get((item, view, mark), 10 ** 9 + item)

    def table(self, one, other):
        return self.answers.get(frozenset((one, other)))


def strangers(document, draw, plan, runs):
    """Pairs of a namer and a table for a plan: right ones, and ones with faults of each kind."""
    seed = draw.randrange(10 ** 6)
    numbers = draw.sample(range(100), len(plan))
    right = right_namer(document, numbers)
    whole = Whole(document)
    greedy = Greedy(document, plan, draw.sample(runs, min(len(runs), 200)))
    drawn = both_ways(lambda one, other: document.drawn_answer(strange.chance(seed, one, other)))
    found = [
        (right, document.table),
        (whole.namer, whole.table),
        (whole.namer, told_now_and_then(document, seed, 12, whole.table)),
        (whole.namer, both_ways(told_now_and_then(document, seed, 12, whole.table))),
        (greedy.namer, greedy.table),
        (greedy.namer, lambda one, other: greedy.table(one, other) or False),
        (right, told_now_and_then(document, seed, 10, document.table)),
        (right, both_ways(told_now_and_then(document, seed, 15, document.table))),
        (right, strange.now_and_then(seed, 6, document.table, draw.choice(document.no_answers))),
        (right, lambda one, other: None),
        (right, lambda one, other: False),
        (right, lambda one, other: True),
        (right, lambda one, other: 0),
        (right, drawn),
        (strange.namer_with(seed, 4, right, draw.choice(strange.NO_NAMES)), document.table),
        (strange.namer_with(seed, 5, whole.namer, draw.choice(strange.NO_NAMES)), whole.table),
        (lambda plan, item, view, mark: item, lambda one, other: document.drawn_answer(0)),
        (lambda plan, item, view, mark: item, drawn),
        (lambda plan, item, view, mark: item % 3 if item % 2 else str(item // 3), drawn),
        (strange.few_namer(seed, 3), drawn),
        (strange.few_namer(seed, 60), drawn),
        (strange.few_namer(seed, 10 ** 9), drawn),
    ]
    if len(plan) > 1:
        one, other = draw.sample([document.text(numbers, drawn_name(document, draw, plan, x)) for x in range(len(plan))], 2)
        found.append((right_namer(document, numbers, {one: other}), document.table))
    return found


def drawn_name(document, draw, plan, item):
    """A plain name that the item has on some run."""
    marks = document.marks(plan, document.drawn_run(draw, plan))
    return document.plain_name(item, marks[item])
