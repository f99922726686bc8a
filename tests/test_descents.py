"""Descents [11]: elders, names that tell who descends from whom, and the foe of these names."""

import random
import unittest

from putbetween.chains import chains
from putbetween.descents import (
    descent_faulty, descent_foe, descent_names, descent_played, is_descent_foe, many_descents)
from putbetween.plans import all_plans
from tests import plainly, strange
from tests.wrong import things, with_things

THREE = ((), (0,), (0, 1))
FORK = ((), (0,), (0,))
LINE = tuple(tuple(range(item)) for item in range(40))
APART = ((),) * 40

SMALL = [plan for many in range(5) for plan in all_plans(many)]
DRAWN = plainly.drawn_plans(171, 20, 7)
LARGE = plainly.drawn_plans(172, 20, 40) + [LINE, APART]

FAULTS = {"name", "same", "wrong"}


class Own(Exception):
    """An error of a stranger's own."""


def plain_namer(plan, item, view, elder):
    """The plain names as texts: the items with points between."""
    return strange.descent_namer(range(len(plan)))(plan, item, view, elder)


def drawn_run(draw, plan):
    return tuple(draw.choice((None,) + row) for row in plan)


def by_item(*names):
    return lambda plan, item, view, elder: names[item]


def of_pairs(*pairs):
    """A table of the pairs of names of which it tells that the first one descends from the second one."""
    return lambda one, other: (one, other) in pairs


def judged(plan, namer, table, thing):
    """Whether a thing is what descent_foe may tell, by the plain words of the document."""
    return strange.is_answer(
        thing, len(plainly.all_chains(plan)), len(plan), lambda run: strange.is_descents(plan, run),
        lambda run: strange.descent_played(plan, run, namer, table))


class Names(unittest.TestCase):
    def test_ordinary(self):
        self.assertEqual(descent_names((), ()), ())
        self.assertEqual(descent_names(((),), (None,)), ((0,),))
        self.assertEqual(descent_names(THREE, (None, None, None)), ((0,), (1,), (2,)))
        self.assertEqual(descent_names(THREE, (None, 0, 0)), ((0,), (0, 1), (0, 2)))
        self.assertEqual(descent_names(THREE, (None, 0, 1)), ((0,), (0, 1), (0, 1, 2)))
        self.assertEqual(descent_names(LINE, (None,) + tuple(range(39)))[39], tuple(range(40)))

    def test_many(self):
        self.assertEqual(many_descents(()), 1)
        self.assertEqual(many_descents(THREE), 6)
        self.assertEqual(many_descents(APART), 1)
        for plan in SMALL + DRAWN:
            self.assertEqual(many_descents(plan), len(strange.all_descents(plan)))
        product = 1
        for many in range(1, 41):
            product *= many
        self.assertEqual(many_descents(LINE), product)

    def test_followed_along_the_elders(self):
        draw = random.Random(173)
        pairs = [(plan, run) for plan in SMALL for run in strange.all_descents(plan)]
        pairs += [(plan, drawn_run(draw, plan)) for plan in DRAWN + LARGE for _ in range(3)]
        for plan, run in pairs:
            names = descent_names(plan, run)
            self.assertIs(type(names), tuple)
            for one, name in enumerate(names):
                above = [other for other in range(len(plan)) if strange.descends(run, one, other)]
                self.assertEqual(name, tuple(above) + (one,))
                self.assertTrue(plainly.is_chain(plan, name))
                for other in range(len(plan)):
                    beginning = other != one and name[:len(names[other])] == names[other]
                    self.assertIs(beginning, other in above)

    def test_the_names_that_can_come_are_just_the_chains(self):
        for plan in SMALL:
            found = {name for run in strange.all_descents(plan) for name in descent_names(plan, run)}
            self.assertEqual(found, set(plainly.all_chains(plan)))


class Played(unittest.TestCase):
    def assert_played(self, plan, run, namer, table):
        told = strange.descent_played(plan, run, namer, table)
        found = descent_played(plan, run, namer, table)
        self.assertTrue(strange.same(found, told), (plan, run, found, told))
        return told

    def test_ordinary(self):
        self.assertEqual(descent_played((), (), plain_namer, strange.descent_table), ("done", ()))
        self.assertEqual(
            descent_played(THREE, (None, 0, 1), plain_namer, strange.descent_table), ("done", ("0", "0.1", "0.1.2")))
        self.assertEqual(
            descent_played(THREE, (None, 0, 0), plain_namer, strange.descent_table), ("done", ("0", "0.1", "0.2")))

    def test_names_that_are_none_and_one_name_twice(self):
        run = (None, None, None)
        for thing in strange.NO_NAMES:
            for at in range(3):
                given = [5, 6, 7]
                given[at] = thing
                self.assertEqual(descent_played(FORK, run, by_item(*given), of_pairs()), ("name", at))
        self.assertEqual(descent_played(FORK, run, by_item(5, 5, 5), of_pairs()), ("same", 0, 1))
        self.assertEqual(descent_played(FORK, run, by_item(5, 6, 6), of_pairs()), ("same", 1, 2))
        self.assertEqual(descent_played(FORK, run, by_item("a", "b", "a"), of_pairs()), ("same", 0, 2))
        self.assertEqual(descent_played(FORK, run, by_item(1, "1", "01"), of_pairs()), ("done", (1, "1", "01")))
        great = (10 ** 60 - 1, "~" * 60, 1 - 10 ** 60)
        self.assertEqual(descent_played(FORK, run, by_item(*great), of_pairs()), ("done", great))

    def test_wrong_tables(self):
        namer = by_item(0, 1, 2)
        run = (None, 0, 1)
        right = [(1, 0), (2, 1), (2, 0)]
        self.assertEqual(descent_played(THREE, run, namer, of_pairs(*right)), ("done", (0, 1, 2)))
        self.assertEqual(descent_played(THREE, run, namer, of_pairs()), ("wrong", 0, 1))
        self.assertEqual(descent_played(THREE, run, namer, of_pairs((1, 0))), ("wrong", 0, 2))
        self.assertEqual(descent_played(THREE, run, namer, of_pairs((1, 0), (2, 1))), ("wrong", 0, 2))
        self.assertEqual(descent_played(THREE, run, namer, of_pairs((1, 0), (2, 0))), ("wrong", 1, 2))
        self.assertEqual(descent_played(THREE, run, namer, of_pairs(*right, (0, 1))), ("wrong", 0, 1))
        self.assertEqual(descent_played(THREE, run, namer, of_pairs(*right, (0, 2))), ("wrong", 0, 2))
        self.assertEqual(descent_played(THREE, run, namer, of_pairs(*right, (1, 2))), ("wrong", 1, 2))
        self.assertEqual(descent_played(THREE, (None, 0, 0), namer, of_pairs(*right)), ("wrong", 1, 2))
        self.assertEqual(descent_played(((), ()), (None, None), namer, of_pairs((1, 0))), ("wrong", 0, 1))
        self.assertEqual(descent_played(((), ()), (None, None), namer, of_pairs((0, 1))), ("wrong", 0, 1))

    def test_tables_that_tell_no_flag(self):
        for thing in strange.NO_FLAGS:
            for pair in [(1, 0), (0, 1), (2, 0), (0, 2), (2, 1), (1, 2)]:
                def table(one, other):
                    return thing if (one, other) == pair else (one, other) in [(1, 0), (2, 1), (2, 0)]
                told = descent_played(THREE, (None, 0, 1), by_item(0, 1, 2), table)
                self.assertEqual(told, ("wrong", min(pair), max(pair)))

    def test_put_in_one_by_one(self):
        draw = random.Random(174)
        told = set()
        for plan in SMALL + DRAWN + plainly.drawn_plans(175, 10, 20):
            for namer, table in strange.descent_strangers(draw, plan):
                for _ in range(3):
                    told.add(self.assert_played(plan, drawn_run(draw, plan), namer, table)[0])
        self.assertEqual(told, FAULTS | {"done"})

    def test_how_strangers_are_called(self):
        draw = random.Random(176)
        for plan in SMALL[::3] + DRAWN:
            run = drawn_run(draw, plan)
            names = strange.descent_played(plan, run, strange.whole_name, strange.whole_table)[1]
            calls = []

            def namer(*arguments):
                calls.append(arguments)
                return strange.whole_name(*arguments)

            def table(*arguments):
                one, other = arguments
                self.assertTrue(strange.is_name(one) and strange.is_name(other) and one != other)
                return strange.whole_table(one, other)

            self.assertEqual(descent_played(plan, run, namer, table), ("done", names))
            wanted = []
            for item, seen in enumerate(plan):
                wanted.append((plan, item, tuple((u, run[u], names[u]) for u in seen), run[item]))
            self.assertTrue(all(any(strange.same(call, other) for other in wanted) for call in calls))
            self.assertTrue(all(call in calls for call in wanted))

    def test_tables_are_asked_of_unlike_names_alone(self):
        draw = random.Random(177)
        for plan in SMALL[::3] + DRAWN:
            for namer, told in strange.descent_strangers(draw, plan):
                def table(*arguments):
                    one, other = arguments
                    self.assertTrue(strange.is_name(one) and strange.is_name(other) and one != other)
                    return told(one, other)
                descent_played(plan, drawn_run(draw, plan), namer, table)
                if chains(plan) < 100:
                    descent_foe(plan, namer, table)

    def test_errors_of_strangers_go_on(self):
        def no_namer(plan, item, view, elder):
            raise Own("a")

        def no_table(one, other):
            raise Own("b")

        for plan in [THREE, FORK, ((), ())]:
            run = (None,) * len(plan)
            fault = ("fault", run, ("name", 0))
            self.assertRaisesRegex(Own, "a", descent_played, plan, run, no_namer, of_pairs())
            self.assertRaisesRegex(Own, "b", descent_played, plan, run, plain_namer, no_table)
            self.assertRaisesRegex(Own, "a", descent_faulty, plan, no_namer, of_pairs())
            self.assertRaisesRegex(Own, "b", descent_faulty, plan, plain_namer, no_table)
            self.assertRaisesRegex(Own, "a", descent_foe, plan, no_namer, of_pairs())
            self.assertRaisesRegex(Own, "b", descent_foe, plan, plain_namer, no_table)
            self.assertRaisesRegex(Own, "a", is_descent_foe, plan, no_namer, of_pairs(), fault)
            self.assertRaisesRegex(Own, "b", is_descent_foe, plan, plain_namer, no_table, fault)


class Faulty(unittest.TestCase):
    def assert_faulty(self, plan, namer, table):
        told = strange.faulty(
            strange.all_descents(plan), lambda run: strange.descent_played(plan, run, namer, table))
        found = descent_faulty(plan, namer, table)
        self.assertTrue(strange.same(found, told), (plan, found, told))
        return told

    def test_ordinary(self):
        self.assertIsNone(descent_faulty((), plain_namer, strange.descent_table))
        self.assertIsNone(descent_faulty(THREE, plain_namer, strange.descent_table))
        self.assertEqual(
            descent_faulty(THREE, by_item(0, 1, 2), of_pairs()), ((None, None, 0), ("wrong", 0, 2)))
        self.assertEqual(
            descent_faulty(((), ()), by_item(0, None), of_pairs()), ((None, None), ("name", 1)))
        self.assertEqual(
            descent_faulty(FORK, plain_namer, strange.now_and_then(1, 1, of_pairs(), True)),
            ((None, None, None), ("wrong", 0, 1)))

    def test_the_first_run_with_a_fault(self):
        draw = random.Random(178)
        for plan in SMALL + plainly.drawn_plans(179, 12, 6):
            for namer, table in strange.descent_strangers(draw, plan):
                self.assert_faulty(plan, namer, table)

    def test_a_fault_on_the_last_run_alone(self):
        for plan in [THREE, LINE[:5], ((), (), (0, 1), (0, 1, 2))]:
            for item in range(1, len(plan)):
                def namer(plan, x, view, elder):
                    # The last elders of all.
                    last = all(u == 0 or above == max(plan[u], default=None) for u, above, _ in view)
                    if x == item and last and elder == max(plan[x], default=None):
                        return None
                    return plain_namer(plan, x, view, elder)

                told = self.assert_faulty(plan, namer, strange.descent_table)
                self.assertEqual(told[1], ("name", item))
                for u in plan[item] + (item,):
                    self.assertEqual(told[0][u], max(plan[u], default=None))

    def test_40_items(self):
        plan = LINE[:4] + ((),) * 35 + ((0, 1),)
        namer = strange.descent_namer(range(40))
        self.assertIsNone(descent_faulty(plan, namer, strange.descent_table))

        def late(plan, item, view, elder):
            return () if (item, elder) == (39, 1) else namer(plan, item, view, elder)

        self.assertEqual(
            descent_faulty(plan, late, strange.descent_table), ((None,) * 39 + (1,), ("name", 39)))


class Foe(unittest.TestCase):
    def assert_found(self, plan, namer, table):
        """Hold that what the foe tells is right, and that is_descent_foe tells so; return it."""
        found = descent_foe(plan, namer, table)
        self.assertTrue(judged(plan, namer, table, found), (plan, found))
        self.assertIs(is_descent_foe(plan, namer, table, found), True)
        return found

    def test_ordinary(self):
        self.assertEqual(descent_foe((), plain_namer, of_pairs()), ("names", []))
        self.assertEqual(descent_foe(((),), plain_namer, of_pairs()), ("names", [((None,), 0)]))
        self.assertEqual(len(self.assert_found(THREE, plain_namer, strange.descent_table)[1]), 7)
        self.assertEqual(self.assert_found(THREE, by_item(0, 1, 2), of_pairs())[0], "fault")

    def test_strangers_of_each_kind(self):
        draw = random.Random(180)
        told = set()
        for plan in SMALL + DRAWN:
            for namer, table in strange.descent_strangers(draw, plan):
                found = self.assert_found(plan, namer, table)
                told.add(found[0] if found[0] == "names" else found[2][0])
        self.assertEqual(told, FAULTS | {"names"})

    def test_right_strangers(self):
        draw = random.Random(181)
        for plan in SMALL + DRAWN:
            namer = strange.descent_namer(draw.sample(range(50), len(plan)))
            self.assertEqual(self.assert_found(plan, namer, strange.descent_table)[0], "names")
            self.assertEqual(self.assert_found(plan, strange.whole_name, strange.whole_table)[0], "names")

    def test_eighth_fact_against_few_names(self):
        for plan in SMALL + DRAWN:
            many = chains(plan)
            for few in {few for few in (1, many // 2, many - 1) if 0 < few < many}:
                def early(plan, item, view, elder):
                    # Right names as long as there are some.
                    name = plain_namer(plan, item, tuple((u, e, texts[told]) for u, e, told in view), elder)
                    return min(texts.index(name), few - 1) if name in texts else few - 1

                texts = sorted(strange.text_of(chain) for chain in plainly.all_chains(plan))
                for seed in range(2):
                    for table in [lambda one, other: strange.draw_flag(seed, one, other), of_pairs(),
                                  lambda one, other: strange.descent_table(texts[one], texts[other])]:
                        for namer in (strange.few_namer(seed, few), early):
                            self.assertEqual(self.assert_found(plan, namer, table)[0], "fault")

    def test_each_two_names_made_one(self):
        for plan in [THREE, FORK, ((), (), (1,)), ((), (0,), (0,), (0, 1, 2))]:
            texts = [strange.text_of(chain) for chain in plainly.all_chains(plan)]
            for one in texts:
                for other in texts:
                    if one != other:
                        def namer(plan, item, view, elder):
                            told = [name for u, _, name in view if u == elder]
                            if told and strange.read(told[0])[-1] != elder:
                                told = [one]
                            name = ".".join(told + [str(item)])
                            return other if name == one else name

                        self.assertEqual(self.assert_found(plan, namer, strange.descent_table)[0], "fault")

    def test_hundreds_of_chains(self):
        draw = random.Random(182)
        plans = [plainly.with_chains(600), LINE[:9], plainly.rounds(7, 3)]
        while len(plans) < 6:
            plan = plainly.near_plan(draw, draw.choice([20, 40]))
            if 200 <= chains(plan) <= 600:
                plans.append(plan)
        for plan in plans:
            right = strange.descent_namer(draw.sample(range(100), len(plan)))
            found = descent_foe(plan, right, strange.descent_table)
            self.assert_unlike(plan, right, found)
            self.assertIs(is_descent_foe(plan, right, strange.descent_table, found), True)
            for namer, table in [(right, strange.now_and_then(183, 3000, strange.descent_table, None)),
                                 (strange.namer_with(184, 900, right, b""), strange.descent_table),
                                 (strange.few_namer(185, 590), of_pairs())]:
                found = descent_foe(plan, namer, table)
                if found[0] == "fault":
                    told = strange.descent_played(plan, found[1], namer, table)
                    self.assertTrue(strange.same(told, found[2]))
                else:
                    self.assert_unlike(plan, namer, found)
                self.assertIs(is_descent_foe(plan, namer, table, found), True)

    def assert_unlike(self, plan, namer, found):
        """Hold that so many rows are told, with unlike names on runs of the plan."""
        self.assertEqual(found[0], "names")
        self.assertEqual(len(found[1]), chains(plan))
        named = []
        for run, item in found[1]:
            self.assertTrue(strange.is_descents(plan, run))
            names = []
            for x, elder in enumerate(run):
                names.append(namer(plan, x, tuple((u, run[u], names[u]) for u in plan[x]), elder))
            named.append(names[item])
        self.assertEqual(len(set(named)), len(named))

    def test_new_lists(self):
        for plan in [(), THREE]:
            found = descent_foe(plan, plain_namer, strange.descent_table)
            other = descent_foe(plan, plain_namer, strange.descent_table)
            self.assertEqual(found, other)
            found[1].append(None)
            self.assertEqual(descent_foe(plan, plain_namer, strange.descent_table), other)


class IsFoe(unittest.TestCase):
    def assert_judged(self, plan, namer, table, thing):
        before = repr(thing)
        wanted = judged(plan, namer, table, thing)
        self.assertIs(is_descent_foe(plan, namer, table, thing), wanted, thing)
        self.assertEqual(repr(thing), before)
        return wanted

    def test_rows_changed_in_one_place(self):
        for plan in [((),), FORK, THREE]:
            rows = descent_foe(plan, plain_namer, strange.descent_table)[1]
            run, item = rows[0]
            for changed in [
                rows[1:], rows + rows[:1], rows[:-1] + [(run, len(plan))], tuple(rows), rows[:-1] + [[run, item]],
                rows[:-1] + [(list(run), item)], rows[:-1] + [(run[1:], item)], rows[:-1] + [(run + (None,), item)],
                rows[:-1] + [(run, True)], rows[:-1] + [(run, -1)], rows[:-1] + [(run, None)], rows[:-1] + [(item, run)],
                rows[:-1] + [((False,) + run[1:], item)], rows[:-1] + [((0,) + run[1:], item)], rows[:-1] + [None],
            ] + ([rows[:-1] + rows[:1], rows[1:] + rows[1:2]] if len(rows) > 1 else []):
                self.assertIs(is_descent_foe(plan, plain_namer, strange.descent_table, ("names", changed)), False)
            for changed in [["names", rows], ("names", rows, rows), ("fault", rows), ("names",), rows]:
                self.assertIs(is_descent_foe(plan, plain_namer, strange.descent_table, changed), False)

    def test_rows_with_all_items_and_runs(self):
        for plan in [FORK, THREE]:
            rows = descent_foe(plan, plain_namer, strange.descent_table)[1]
            told = set()
            for at in range(len(rows)):
                for run in strange.all_descents(plan):
                    for item in range(len(plan)):
                        changed = rows[:at] + [(run, item)] + rows[at + 1:]
                        told.add(self.assert_judged(plan, plain_namer, strange.descent_table, ("names", changed)))
            self.assertEqual(told, {True, False})

    def test_rows_on_a_run_with_a_fault(self):
        def namer(plan, item, view, elder):
            # Unlike names on all runs, but 2 has none where it descends from 1 and 1 from 0.
            right = plain_namer(plan, item, view, elder)
            return None if right == "0.1.2" else right

        rows = descent_foe(THREE, plain_namer, strange.descent_table)[1]
        self.assertIs(is_descent_foe(THREE, namer, strange.descent_table, ("names", rows)), False)
        for run in strange.all_descents(THREE):
            thing = ("fault", run, ("name", 2))
            self.assertIs(is_descent_foe(THREE, namer, strange.descent_table, thing), run == (None, 0, 1))

    def test_faults_changed_in_one_place(self):
        for namer, table, fault in [
            (by_item(0, 1, None), of_pairs((1, 0)), ("name", 2)),
            (by_item(0, 1, 1), of_pairs((1, 0)), ("same", 1, 2)),
            (by_item(0, 1, 2), of_pairs((1, 0), (2, 0)), ("wrong", 1, 2)),
            (by_item(0, 1, 2), of_pairs(), ("wrong", 0, 1)),
        ]:
            thing = ("fault", (None, 0, 1), fault)
            self.assertIs(is_descent_foe(THREE, namer, table, thing), True)
            for changed in with_things(thing):
                self.assert_judged(THREE, namer, table, changed)
            flags = tuple(bool(part) if part in (0, 1) else part for part in fault)
            for changed in [("fault", (None, 0, 1), list(fault)), ("fault", [None, 0, 1], fault), ["fault", *thing[1:]],
                            ("fault", (None, False, 1), fault), ("fault", (None, 0, True), fault), thing + (0,),
                            ("names", *thing[1:]), thing[1:], ("fault", (None, 0, 1), fault[:-1]),
                            ("fault", (None, 0, 1), flags) if flags != fault or repr(flags) != repr(fault) else None]:
                self.assertIs(is_descent_foe(THREE, namer, table, changed), False, changed)

    def test_what_is_told_without_a_fault_is_none(self):
        for plan in [(), ((),), THREE]:
            for run in strange.all_descents(plan):
                told = descent_played(plan, run, plain_namer, strange.descent_table)
                self.assertIs(is_descent_foe(plan, plain_namer, strange.descent_table, ("fault", run, told)), False)

    def test_things_of_every_kind(self):
        for plan in [(), ((),), THREE]:
            for thing in things() + [("names", thing) for thing in things()]:
                self.assert_judged(plan, plain_namer, strange.descent_table, thing)
            for thing in with_things(("names", descent_foe(plan, plain_namer, strange.descent_table)[1])):
                self.assert_judged(plan, plain_namer, strange.descent_table, thing)


if __name__ == "__main__":
    unittest.main()
