"""Lots [12] and webs [13]: strangers played on them, and the foe of these strangers."""

import itertools
import random
import unittest

from putbetween.plans import all_plans
from tests import plainly, strange, strange_marks
from tests.strange_marks import Lots, Webs, right_namer
from tests.wrong import things, with_things

THREE = ((), (0,), (0, 1))
FORK = ((), (0,), (0,))
LINE = tuple(tuple(range(item)) for item in range(40))
APART = ((),) * 40

SMALL = [plan for many in range(5) for plan in all_plans(many)]
DOCUMENTS = [Lots()] + [Webs(kinds) for kinds in range(1, 6)]

FAULTS = {"name", "same", "wrong"}


class Own(Exception):
    """An error of a stranger's own."""


def with_few_runs(plans, document):
    """Those of the plans that have few enough runs to go through all of them."""
    found = []
    for plan in plans:
        pairs = sum(len(row) for row in plan)
        if isinstance(document, Lots) or document.kinds ** pairs <= 2000:
            found.append(plan)
    return found


def plans_of(document):
    return with_few_runs(SMALL + plainly.drawn_plans(201, 25, 6), document)


def drawn_runs(document, draw, plan, many):
    return [document.drawn_run(draw, plan) for _ in range(many)]


def play(document, plan, run, namer, table):
    return strange_marks.played(plan, document.marks(plan, run), namer, table, document.due)


class Cases(unittest.TestCase):
    def each(self, *plans):
        """All documents with each of these plans, and what the program has for them."""
        for document in DOCUMENTS:
            for plan in plans or plans_of(document):
                yield document, plan, document.functions(plan)


class Names(Cases):
    def test_ordinary(self):
        lots = Lots().functions(THREE)
        self.assertEqual(lots.names((0, 1, 2)), ((0, 0), (1, 1), (2, 2)))
        self.assertEqual(lots.names((0, 0, 0)), ((0, 0), (0, 1), (0, 2)))
        self.assertEqual(lots.names((0, 1, 1)), ((0, 0), (1, 1), (1, 2)))
        webs = Webs(3).functions(THREE)
        self.assertEqual(webs.names(((), (2,), (0, 1))), ((0, ()), (1, ((0, 2),)), (2, ((0, 0), (1, 1)))))
        for document in DOCUMENTS:
            self.assertEqual(document.functions(()).names(()), ())

    def test_as_defined(self):
        draw = random.Random(202)
        large = plainly.drawn_plans(203, 12, 40) + [LINE, APART]
        for document, plan, has in self.each(*SMALL, *large):
            for run in drawn_runs(document, draw, plan, 3):
                marks = document.marks(plan, run)
                found = has.names(run)
                self.assertIs(type(found), tuple)
                wanted = tuple(document.plain_name(item, mark) for item, mark in enumerate(marks))
                self.assertTrue(strange.same(found, wanted))

    def test_as_many_are_needed_as_can_come(self):
        for document, plan, has in self.each():
            found = {name for run in document.runs(plan) for name in has.names(run)}
            self.assertEqual(found, set(document.names(plan)))
            self.assertEqual(has.needed(), len(found))

    def test_needed(self):
        self.assertEqual(Lots().functions(THREE).needed(), 6)
        self.assertEqual(Lots().functions(LINE).needed(), 820)
        self.assertEqual(Webs(2).functions(THREE).needed(), 7)
        self.assertEqual(Webs(1).functions(LINE).needed(), 40)
        self.assertEqual(Webs(2).functions(LINE).needed(), 2 ** 40 - 1)
        self.assertEqual(Webs(5).functions(LINE).needed(), (5 ** 40 - 1) // 4)
        for document in DOCUMENTS:
            self.assertEqual(document.functions(()).needed(), 0)
            self.assertEqual(document.functions(APART).needed(), 40)

    def test_many(self):
        self.assertEqual([Lots().functions(LINE[:many]).many() for many in range(9)], [1, 1, 2, 5, 15, 52, 203, 877, 4140])
        self.assertEqual(Webs(5).functions(LINE).many(), 5 ** 780)
        for document, plan, has in self.each():
            self.assertEqual(has.many(), len(document.runs(plan)))
        for document in DOCUMENTS:
            self.assertEqual(document.functions(APART).many(), 1)
        for plan in plainly.drawn_plans(204, 30, 40):
            for kinds in range(1, 6):
                pairs = sum(len(row) for row in plan)
                self.assertEqual(Webs(kinds).functions(plan).many(), kinds ** pairs)


class Played(Cases):
    def test_ordinary(self):
        lots = Lots().functions(THREE)
        right = right_namer(Lots(), range(3))
        self.assertEqual(lots.played((0, 0, 2), right, Lots().table), ("done", ("0/0", "0/1", "2/2")))
        webs = Webs(2).functions(THREE)
        right = right_namer(Webs(2), range(3))
        self.assertEqual(
            webs.played(((), (1,), (0, 1)), right, Webs(2).table), ("done", ("0/", "1/0:1", "2/0:0,1:1")))
        for document in DOCUMENTS:
            self.assertEqual(document.functions(()).played((), None, None), ("done", ()))

    def test_names_that_are_none_and_one_name_twice(self):
        great = (10 ** 60 - 1, "~" * 60, 1 - 10 ** 60)
        for document, plan, has in self.each(APART[:3]):
            run = document.drawn_run(random, plan)
            table = lambda one, other: document.due(document.marks(plan, run), 0, 1)
            for given, wanted in [
                ((5, 5, 5), ("same", 0, 1)), ((5, 6, 6), ("same", 1, 2)), (("a", "b", "a"), ("same", 0, 2)),
                ((1, "1", "01"), ("done", (1, "1", "01"))), (great, ("done", great)),
                *[((5, thing, 6), ("name", 1)) for thing in strange.NO_NAMES],
                *[((5, 5, thing), ("same", 0, 1)) for thing in strange.NO_NAMES],
                *[((thing, 5, 5), ("name", 0)) for thing in strange.NO_NAMES],
            ]:
                told = has.played(run, lambda plan, item, view, mark: given[item], table)
                self.assertTrue(strange.same(told, wanted))

    def test_one_answer_changed(self):
        # Each answer of the table, one way about alone, in all ways.
        draw = random.Random(205)
        for document, plan, has in self.each(THREE, FORK, ((), (), (0, 1))):
            for run in drawn_runs(document, draw, plan, 3):
                marks = document.marks(plan, run)
                for x, y in itertools.permutations(range(3), 2):
                    right = document.due(marks, x, y)
                    for answer in document.no_answers + [None, True, False, 0, 1, 2, 3, 4, -1]:
                        def table(one, other):
                            return answer if (one, other) == (x, y) else document.due(marks, one, other)
                        told = has.played(run, lambda plan, item, view, mark: item, table)
                        wanted = ("done", (0, 1, 2)) if strange.same(answer, right) else ("wrong", min(x, y), max(x, y))
                        self.assertEqual(told, wanted)

    def test_which_fault_comes_first(self):
        has = Lots().functions(THREE)
        by_item = lambda *given: lambda plan, item, view, mark: given[item]
        self.assertEqual(has.played((0, 0, 0), by_item(0, 1, 2), lambda one, other: False), ("wrong", 0, 1))
        self.assertEqual(has.played((0, 1, 0), by_item(0, 1, 2), lambda one, other: False), ("wrong", 0, 2))
        self.assertEqual(has.played((0, 1, 1), by_item(0, 1, 2), lambda one, other: False), ("wrong", 1, 2))
        self.assertEqual(has.played((0, 0, 0), by_item(0, 1, 0), lambda one, other: True), ("same", 0, 2))
        self.assertEqual(has.played((0, 0, 0), by_item(0, 1, None), lambda one, other: False), ("wrong", 0, 1))
        self.assertEqual(has.played((0, 1, 2), by_item(0, 1, None), lambda one, other: False), ("name", 2))

    def test_put_in_one_by_one(self):
        draw = random.Random(206)
        told = set()
        large = plainly.drawn_plans(207, 12, 40)
        for document, plan, has in self.each(*SMALL, *plainly.drawn_plans(208, 30, 6), *large):
            runs = drawn_runs(document, draw, plan, 12)
            for namer, table in strange_marks.strangers(document, draw, plan, runs):
                for run in runs[:3]:
                    wanted = play(document, plan, run, namer, table)
                    self.assertTrue(strange.same(has.played(run, namer, table), wanted), (run, wanted))
                    told.add(wanted[0])
        self.assertEqual(told, FAULTS | {"done"})

    def test_how_strangers_are_called(self):
        draw = random.Random(209)
        for document, plan, has in self.each(*SMALL[::3], *plainly.drawn_plans(210, 5, 12)):
            whole = strange_marks.Whole(document)
            run = document.drawn_run(draw, plan)
            marks = document.marks(plan, run)
            names = play(document, plan, run, whole.namer, whole.table)[1]
            calls = []

            def namer(*arguments):
                calls.append(arguments)
                return whole.namer(*arguments)

            def table(*arguments):
                one, other = arguments
                self.assertTrue(strange.is_name(one) and strange.is_name(other) and one != other)
                return whole.table(one, other)

            self.assertEqual(has.played(run, namer, table), ("done", names))
            wanted = []
            for item, seen in enumerate(plan):
                wanted.append((plan, item, tuple((u, marks[u], names[u]) for u in seen), marks[item]))
            self.assertTrue(all(any(strange.same(call, other) for other in wanted) for call in calls))
            self.assertTrue(all(call in calls for call in wanted))

    def test_tables_are_asked_of_unlike_names_alone(self):
        draw = random.Random(211)
        for document, plan, has in self.each(*SMALL[::3]):
            runs = drawn_runs(document, draw, plan, 10)
            for namer, told in strange_marks.strangers(document, draw, plan, runs):
                def table(*arguments):
                    one, other = arguments
                    self.assertTrue(strange.is_name(one) and strange.is_name(other) and one != other)
                    return told(one, other)
                has.played(runs[0], namer, table)
                has.foe(namer, table)

    def test_errors_of_strangers_go_on(self):
        def no_namer(plan, item, view, mark):
            raise Own("a")

        def no_table(one, other):
            raise Own("b")

        for document, plan, has in self.each(THREE, FORK, ((), ())):
            run = document.drawn_run(random.Random(212), plan)
            fault = ("fault", run, ("name", 0))
            right = right_namer(document, range(3))
            for function, arguments in [(has.played, (run,)), (has.faulty, ()), (has.foe, ())]:
                self.assertRaisesRegex(Own, "a", function, *arguments, no_namer, document.table)
                self.assertRaisesRegex(Own, "b", function, *arguments, right, no_table)
            self.assertRaisesRegex(Own, "a", has.is_foe, no_namer, document.table, fault)
            self.assertRaisesRegex(Own, "b", has.is_foe, right, no_table, fault)


class Faulty(Cases):
    def assert_faulty(self, document, plan, namer, table):
        told = strange.faulty(document.runs(plan), lambda run: play(document, plan, run, namer, table))
        found = document.functions(plan).faulty(namer, table)
        self.assertTrue(strange.same(found, told), (found, told))
        return told

    def test_ordinary(self):
        by_item = lambda plan, item, view, mark: item
        self.assertEqual(Lots().functions(THREE).faulty(by_item, lambda *_: False), ((0, 0, 0), ("wrong", 0, 1)))
        self.assertEqual(Lots().functions(THREE).faulty(by_item, lambda *_: True), ((0, 0, 2), ("wrong", 0, 2)))
        self.assertEqual(
            Webs(2).functions(THREE).faulty(by_item, lambda *_: 0), (((), (0,), (0, 1)), ("wrong", 1, 2)))
        self.assertIsNone(Webs(1).functions(LINE).faulty(by_item, lambda *_: 0))
        for document, plan, has in self.each(THREE, FORK, (), ((),), APART):
            self.assertIsNone(has.faulty(right_namer(document, range(40)), document.table))

    def test_the_first_run_with_a_fault(self):
        draw = random.Random(213)
        plans = SMALL + plainly.drawn_plans(214, 16, 6)
        for document in DOCUMENTS:
            for plan in with_few_runs(plans, document):
                runs = document.runs(plan)
                if len(runs) <= 700:
                    for namer, table in strange_marks.strangers(document, draw, plan, runs):
                        self.assert_faulty(document, plan, namer, table)

    def test_a_fault_on_the_last_run_alone(self):
        for document, plan, has in self.each(THREE, ((), (), (0, 1)), FORK):
            last = document.runs(plan)[-1]
            marks = document.marks(plan, last)
            whole = strange_marks.Whole(document)

            def namer(plan, item, view, mark):
                same = all(marks[u] == told for u, told, _ in view)
                return None if item == 2 and same and mark == marks[2] else whole.namer(plan, item, view, mark)

            told = self.assert_faulty(document, plan, namer, whole.table)
            self.assertEqual(told[1], ("name", 2))
            if plan != FORK:
                self.assertEqual(told[0], last)

    def test_40_items(self):
        plan = LINE[:3] + APART[:36] + ((0, 1, 2),)
        for document in [Lots(), Webs(3)]:
            has = document.functions(plan)
            right = right_namer(document, range(40))
            self.assertIsNone(has.faulty(right, document.table))
            last = document.runs(plan)[-1]
            late = lambda plan, item, view, mark: [] if (item, mark) == (39, document.marks(plan, last)[39]) else right(
                plan, item, view, mark)
            self.assert_faulty(document, plan, late, document.table)
            self.assertEqual(has.faulty(late, document.table)[1], ("name", 39))


class Foe(Cases):
    def assert_found(self, document, plan, namer, table):
        """Hold that what the foe tells is right, and that the judge of its answers tells so; return it."""
        has = document.functions(plan)
        found = has.foe(namer, table)
        self.assertTrue(strange_marks.is_answer(document, plan, namer, table, found), found)
        self.assertIs(has.is_foe(namer, table, found), True)
        return found

    def test_ordinary(self):
        for document in DOCUMENTS:
            self.assertEqual(document.functions(()).foe(None, None), ("names", []))
            found = self.assert_found(document, ((),), right_namer(document, [0]), None)
            self.assertEqual(len(found[1]), 1)
            found = self.assert_found(document, THREE, right_namer(document, range(3)), document.table)
            self.assertEqual(len(found[1]), document.functions(THREE).needed())

    def test_strangers_of_each_kind(self):
        draw = random.Random(215)
        told = set()
        for document, plan, _ in self.each(*SMALL, *plainly.drawn_plans(216, 15, 6)):
            if len(document.names(plan)) > 150:
                continue
            runs = document.runs(plan) if plan in with_few_runs([plan], document) else [document.drawn_run(draw, plan)]
            for namer, table in strange_marks.strangers(document, draw, plan, runs):
                found = self.assert_found(document, plan, namer, table)
                told.add(found[0] if found[0] == "names" else found[2][0])
        self.assertEqual(told, FAULTS | {"names"})

    def test_right_strangers(self):
        draw = random.Random(217)
        for document, plan, has in self.each():
            if has.needed() > 150:
                continue
            whole = strange_marks.Whole(document)
            right = right_namer(document, draw.sample(range(100), len(plan)))
            self.assertEqual(self.assert_found(document, plan, right, document.table)[0], "names")
            self.assertEqual(self.assert_found(document, plan, whole.namer, whole.table)[0], "names")

    def test_right_strangers_that_use_names_again(self):
        # They use a name for more than one thing, where this can be seen, and so few names as there can be.
        for document, plan, has in self.each():
            runs = document.runs(plan)
            greedy = strange_marks.Greedy(document, plan, runs)
            found = self.assert_found(document, plan, greedy.namer, greedy.table)
            if has.faulty(greedy.namer, greedy.table) is None:
                self.assertEqual(found[0], "names")
                self.assertGreaterEqual(greedy.many, has.needed())
            elif greedy.many < has.needed():
                self.assertEqual(found[0], "fault")

    def test_numbers_within_the_lot(self):
        # Where each item has seen all earlier ones, the number within its lot is enough, and no founder is told.
        def namer(plan, item, view, founder):
            return f"{founder}/{len([other for _, other, _ in view if other == founder])}"

        for many in range(9):
            found = self.assert_found(Lots(), LINE[:many], namer, Lots().table)
            self.assertEqual(found[0], "names")
            self.assertIsNone(Lots().functions(LINE[:many]).faulty(namer, Lots().table))

    def test_each_two_names_made_one(self):
        for document, plan, has in self.each(THREE, FORK, ((), (), (1,)), ((), (0,), (0,), (0, 1, 2)), LINE[:4]):
            if has.needed() > 40:
                continue
            texts = [document.text(range(40), name) for name in document.names(plan)]
            for one, other in itertools.permutations(texts, 2):
                namer = right_namer(document, range(40), {one: other})
                self.assertEqual(self.assert_found(document, plan, namer, document.table)[0], "fault")

    def test_against_few_names(self):
        for document, plan, has in self.each(*plans_of(DOCUMENTS[0])[::3]):
            needed = has.needed()
            if needed > 100:
                continue
            texts = sorted(document.text(range(40), name) for name in document.names(plan))
            for few in {few for few in (1, needed // 2, needed - 1) if 0 < few < needed}:
                def early(plan, item, view, mark):
                    return min(texts.index(document.text(range(40), document.plain_name(item, mark))), few - 1)

                drawn = strange_marks.both_ways(lambda one, other: document.drawn_answer(strange.chance(one, other)))
                for table in [drawn, lambda one, other: document.table(texts[one], texts[other])]:
                    for namer in (strange.few_namer(few, few), early):
                        self.assertEqual(self.assert_found(document, plan, namer, table)[0], "fault")

    def test_hundreds_of_names(self):
        draw = random.Random(218)
        pairs = [(Lots(), LINE), (Lots(), LINE[:30]), (Lots(), plainly.rounds(8, 5)), (Webs(1), LINE), (Webs(2), LINE[:9]),
                 (Webs(5), LINE[:4]), (Webs(3), ((),) * 5 + ((0, 1, 2, 3, 4),) * 2 + ((2,),) * 15)]
        pairs += [(Lots(), plan) for plan in plainly.drawn_plans(219, 5, 40)]
        for document, plan in pairs:
            has = document.functions(plan)
            right = right_namer(document, draw.sample(range(100), len(plan)))
            found = has.foe(right, document.table)
            self.assertEqual(len(found[1]), has.needed())
            self.assert_unlike(document, plan, right, found)
            self.assertIs(has.is_foe(right, document.table, found), True)
            for namer, table in [(right, told_rarely(document)), (strange.namer_with(220, 300, right, b""), document.table),
                                 (strange.few_namer(221, 590), lambda one, other: None)]:
                found = has.foe(namer, table)
                if found[0] == "fault":
                    self.assertTrue(strange.same(play(document, plan, found[1], namer, table), found[2]))
                else:
                    self.assert_unlike(document, plan, namer, found)
                self.assertIs(has.is_foe(namer, table, found), True)

    def assert_unlike(self, document, plan, namer, found):
        """Hold that so many rows are told, with unlike names on runs of the plan."""
        self.assertEqual(found[0], "names")
        named = []
        for run, item in found[1]:
            self.assertTrue(document.is_run(plan, run))
            marks = document.marks(plan, run)
            names = []
            for x in range(len(plan)):
                names.append(namer(plan, x, tuple((u, marks[u], names[u]) for u in plan[x]), marks[x]))
            named.append(names[item])
        self.assertEqual(len(set(named)), document.functions(plan).needed())

    def test_new_lists(self):
        for document, plan, has in self.each((), THREE):
            namer = right_namer(document, range(3))
            found, other = has.foe(namer, document.table), has.foe(namer, document.table)
            self.assertEqual(found, other)
            found[1].append(None)
            self.assertEqual(has.foe(namer, document.table), other)


def told_rarely(document):
    return strange_marks.told_now_and_then(document, 222, 2000, document.table)


class IsFoe(Cases):
    def assert_judged(self, document, plan, namer, table, thing):
        before = repr(thing)
        wanted = strange_marks.is_answer(document, plan, namer, table, thing)
        self.assertIs(document.functions(plan).is_foe(namer, table, thing), wanted, thing)
        self.assertEqual(repr(thing), before)
        return wanted

    def test_rows_changed_in_one_place(self):
        for document, plan, has in self.each(((),), FORK, THREE):
            namer = right_namer(document, range(3))
            rows = has.foe(namer, document.table)[1]
            run, item = rows[-1]
            ahead = rows[:-1]
            self.assertIs(has.is_foe(namer, document.table, ("names", ahead + [(run, item)])), True)
            for changed in [
                ahead, rows + rows[:1], tuple(rows), ahead + [[run, item]], ahead + [(list(run), item)],
                ahead + [(run[1:], item)], ahead + [(run + (0,), item)], ahead + [(run, len(plan))], ahead + [(run, -1)],
                ahead + [(run, None)], ahead + [(run, True)], ahead + [(run, False)], ahead + [(item, run)],
                ahead + [None], ahead + [(run,)], ahead + [(run, item, 0)], ahead + [((False,) + run[1:], item)],
                ahead + [((1,) + run[1:], item)], ahead + [(([],) + run[1:], item)], ahead + [((None,) + run[1:], item)],
            ] + ([ahead + rows[:1]] if ahead else []):
                self.assertIs(has.is_foe(namer, document.table, ("names", changed)), False, changed)
            for changed in [["names", rows], ("names", rows, rows), ("fault", rows), ("names",), rows, None]:
                self.assertIs(has.is_foe(namer, document.table, changed), False, changed)

    def test_rows_in_any_order(self):
        for document, plan, has in self.each(THREE, FORK):
            namer = right_namer(document, range(3))
            rows = has.foe(namer, document.table)[1]
            random.Random(223).shuffle(rows)
            self.assertIs(has.is_foe(namer, document.table, ("names", rows)), True)

    def test_rows_with_all_items_and_runs(self):
        for document, plan in [(Lots(), THREE), (Lots(), FORK), (Webs(2), THREE), (Webs(3), FORK)]:
            namer = right_namer(document, range(3))
            rows = document.functions(plan).foe(namer, document.table)[1]
            told = set()
            for at in range(len(rows)):
                for run in document.runs(plan):
                    for item in range(3):
                        thing = ("names", rows[:at] + [(run, item)] + rows[at + 1:])
                        told.add(self.assert_judged(document, plan, namer, document.table, thing))
            self.assertEqual(told, {True, False})

    def test_rows_on_a_run_with_a_fault(self):
        for document, plan, has in self.each(THREE):
            whole = strange_marks.Whole(document)
            last = document.runs(plan)[-1]
            bad = whole.namer(plan, 2, tuple((u, document.marks(plan, last)[u], "") for u in (0, 1)),
                              document.marks(plan, last)[2])

            def namer(plan, item, view, mark):
                name = whole.namer(plan, item, view, mark)
                return None if name == bad else name

            rows = [(run, item) for run in document.runs(plan) for item in range(3)]
            for run in document.runs(plan):
                thing = ("fault", run, ("name", 2))
                self.assertIs(has.is_foe(namer, whole.table, thing), run == last)
            if has.needed() < 12:
                for many in range(len(rows)):
                    chosen = rows[many:] + rows[:many]
                    self.assert_judged(document, plan, namer, whole.table, ("names", chosen[:has.needed()]))

    def test_faults_changed_in_one_place(self):
        for document, plan, has in self.each(THREE):
            run = document.runs(plan)[-1]
            marks = document.marks(plan, run)
            for given, table, fault in [
                ((0, 1, None), lambda one, other: document.due(marks, one, other), ("name", 2)),
                ((0, 1, 1), lambda one, other: document.due(marks, one, other), ("same", 1, 2)),
                ((0, 1, 2), lambda one, other: document.due(marks, one, other) if one + other != 3 else (), ("wrong", 1, 2)),
                ((0, 1, 2), lambda one, other: (), ("wrong", 0, 1)),
            ]:
                namer = lambda plan, item, view, mark: given[item]
                thing = ("fault", run, fault)
                self.assertIs(has.is_foe(namer, table, thing), True)
                for changed in with_things(thing):
                    self.assert_judged(document, plan, namer, table, changed)
                flags = tuple(bool(part) if part in (0, 1) else part for part in fault)
                for changed in [("fault", run, list(fault)), ("fault", list(run), fault), ["fault", run, fault],
                                ("fault", run, fault, 0), ("names", run, fault), (run, fault), ("fault", run, fault[:-1]),
                                ("fault", run[1:], fault), ("fault", run + (0,), fault),
                                ("fault", run, flags) if repr(flags) != repr(fault) else None]:
                    self.assertIs(has.is_foe(namer, table, changed), False, changed)

    def test_what_is_told_without_a_fault_is_none(self):
        for document, plan, has in self.each((), ((),), THREE):
            namer = right_namer(document, range(3))
            for run in document.runs(plan):
                told = has.played(run, namer, document.table)
                self.assertIs(has.is_foe(namer, document.table, ("fault", run, told)), False)

    def test_things_of_every_kind(self):
        for document, plan, has in self.each((), ((),), FORK):
            namer = right_namer(document, range(3))
            for thing in things() + [("names", thing) for thing in things()]:
                self.assert_judged(document, plan, namer, document.table, thing)
            if has.needed() < 20:
                for thing in with_things(("names", has.foe(namer, document.table)[1])):
                    self.assert_judged(document, plan, namer, document.table, thing)


if __name__ == "__main__":
    unittest.main()
