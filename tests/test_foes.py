"""The foe [7]: against each stranger a run with a fault, or as many unlike names as there are chains."""

import random
import unittest

from putbetween.chains import chains
from putbetween.foes import foe, is_foe
from putbetween.plans import all_plans
from putbetween.playing import plain_namer, plain_table, played, rank_namer, rank_table
from tests import plainly, strange
from tests.wrong import things, with_things

THREE = ((), (0,), (0, 1))
FORK = ((), (0,), (0,))
LINE = tuple(tuple(range(item)) for item in range(9))

SMALL = [plan for many in range(5) for plan in all_plans(many)] + plainly.drawn_plans(121, 40, 7)


class Own(Exception):
    """An error of a stranger's own."""


def judged(plan, namer, table, thing):
    """Whether a thing is what the foe may tell, by the plain words of the document."""
    return strange.is_answer(
        thing, len(plainly.all_chains(plan)), len(plan), lambda run: plainly.is_run(plan, run),
        lambda run: strange.played(plan, run, namer, table))


def large_plans():
    """Plans with hundreds of chains, some with 40 items."""
    draw = random.Random(122)
    plans = [plainly.with_chains(600), LINE, plainly.rounds(7, 3)]
    while len(plans) < 6:
        plan = plainly.near_plan(draw, draw.choice([20, 30, 40]))
        if 200 <= chains(plan) <= 600:
            plans.append(plan)
    return plans


LARGE = large_plans()


class Foe(unittest.TestCase):
    def assert_found(self, plan, namer, table):
        """Hold that what the foe tells is right, and that is_foe tells so; return it."""
        found = foe(plan, namer, table)
        self.assertTrue(judged(plan, namer, table, found), (plan, found))
        self.assertIs(is_foe(plan, namer, table, found), True)
        return found

    def test_ordinary(self):
        self.assertEqual(foe((), plain_namer, plain_table), ("names", []))
        self.assertEqual(foe(((),), plain_namer, plain_table), ("names", [((0,), 0)]))
        found = self.assert_found(THREE, plain_namer, plain_table)
        self.assertEqual(len(found[1]), 7)
        self.assertEqual(foe(((),), lambda *_: None, plain_table), ("fault", (0,), ("name", 0)))
        self.assertEqual(foe(((), ()), lambda *_: 5, plain_table), ("fault", (0, 0), ("same", 0, 1)))

    def test_strangers_of_each_kind(self):
        draw = random.Random(123)
        told = set()
        for plan in SMALL:
            for namer, table in strange.strangers(draw, plan):
                found = self.assert_found(plan, namer, table)
                told.add(found[0] if found[0] == "names" else found[2][0])
        self.assertEqual(told, {"name", "same", "silent", "against", "round", "names"})

    def test_right_strangers(self):
        draw = random.Random(124)
        for plan in SMALL:
            namer = strange.chain_namer(strange.renumbered(draw, plan))
            for stranger in [(namer, strange.chain_table), (plain_namer, plain_table), (rank_namer, rank_table)]:
                self.assertEqual(self.assert_found(plan, *stranger)[0], "names")

    def test_each_two_names_made_one(self):
        for plan in [THREE, FORK, ((), (), (1,)), ((), (0,), (0,), (0, 1, 2)), ((), (), (0, 1))]:
            texts = [strange.text_of(chain) for chain in plainly.all_chains(plan)]
            for one in texts:
                for other in texts:
                    if one != other:
                        namer = strange.chain_namer(range(len(plan)), {one: other})
                        self.assertEqual(self.assert_found(plan, namer, strange.chain_table)[0], "fault")

    def test_two_names_made_one(self):
        draw = random.Random(125)
        for plan in SMALL * 5:
            stranger = strange.merging(draw, plan)
            if stranger is not None:
                self.assertEqual(self.assert_found(plan, *stranger)[0], "fault")

    def test_main_fact_against_few_names(self):
        for plan in SMALL:
            many = len(plainly.all_chains(plan))
            for few in {few for few in (1, many // 2, many - 1) if 0 < few < many}:
                for seed in range(3):
                    namer = strange.few_namer(seed, few)
                    for table in [strange.drawn_table(seed), lambda one, other: one < other]:
                        found = self.assert_found(plan, namer, table)
                        self.assertEqual(found[0], "fault")

                    def low(plan, item, view, gap):
                        return min(view[gap - 1][1] + 1 if gap else 0, few - 1)

                    self.assertEqual(self.assert_found(plan, low, rank_table)[0], "fault")

    def test_one_fault_somewhere(self):
        # Where just one name on just one kind of view is none, the foe meets it or may tell all names.
        for plan in SMALL[:60]:
            for item in range(len(plan)):
                for gap in range(len(plan[item]) + 1):
                    def namer(plan, x, view, g):
                        return None if (x, g) == (item, gap) else plain_namer(plan, x, view, g)
                    found = self.assert_found(plan, namer, plain_table)
                    self.assertEqual(found[0], "fault")
                    self.assertEqual(found[2], ("name", item))

    def test_hundreds_of_chains(self):
        draw = random.Random(127)
        for plan in LARGE:
            numbers = strange.renumbered(draw, plan)
            right = strange.chain_namer(numbers)
            for namer, table in [(rank_namer, rank_table), (right, strange.chain_table)]:
                found = foe(plan, namer, table)
                self.assertEqual(found[0], "names")
                self.assertEqual(len(found[1]), chains(plan))
                self.assert_unlike(plan, namer, table, found[1])
                self.assertIs(is_foe(plan, namer, table, found), True)
            merged = namer_of_fewer(chains(plan) - 1)
            for namer, table in [(merged, rank_table), (right, strange.loose_table(plan, numbers, 128)),
                                 (right, strange.now_and_then(129, 3000, strange.chain_table, None)),
                                 (strange.namer_with(130, 1000, right, ()), strange.chain_table),
                                 (strange.few_namer(131, 500), strange.drawn_table(131))]:
                found = foe(plan, namer, table)
                if found[0] == "fault":
                    self.assertTrue(strange.same(strange.played(plan, found[1], namer, table), found[2]))
                else:
                    self.assert_unlike(plan, namer, table, found[1])
                self.assertIs(is_foe(plan, namer, table, found), True)
            self.assertEqual(foe(plan, merged, rank_table)[0], "fault")

    def assert_unlike(self, plan, namer, table, rows):
        """Hold that the names of these rows are all unlike, on runs without a fault."""
        self.assertEqual(len(rows), chains(plan))
        named = []
        told = {run: played(plan, run, namer, table) for run, _ in rows}
        for run, item in rows:
            self.assertTrue(plainly.is_run(plan, run))
            self.assertEqual(told[run][0], "done")
            named.append(told[run][1][item])
        self.assertEqual(len(set(named)), len(rows))

    def test_errors_of_strangers_go_on(self):
        def no_namer(plan, item, view, gap):
            raise Own("a")

        def no_table(one, other):
            raise Own("b")

        for plan in [THREE, FORK, ((), ())]:
            self.assertRaisesRegex(Own, "a", foe, plan, no_namer, plain_table)
            self.assertRaisesRegex(Own, "b", foe, plan, plain_namer, no_table)
            found = foe(plan, plain_namer, plain_table)
            self.assertRaisesRegex(Own, "a", is_foe, plan, no_namer, plain_table, found)
            self.assertRaisesRegex(Own, "b", is_foe, plan, plain_namer, no_table, found)
            thing = ("fault", (0,) * len(plan), ("name", 0))
            self.assertRaisesRegex(Own, "a", is_foe, plan, no_namer, plain_table, thing)

    def test_how_strangers_are_called(self):
        draw = random.Random(132)
        for plan in SMALL[::3]:
            for namer, table in strange.strangers(draw, plan):
                def watched_namer(*arguments):
                    told, item, view, gap = arguments
                    self.assertEqual(told, plan)
                    self.assertIs(type(item), int)
                    self.assertIs(type(view), tuple)
                    self.assertEqual(sorted(u for u, _ in view), list(plan[item]))
                    self.assertTrue(all(type(pair) is tuple and strange.is_name(pair[1]) for pair in view))
                    for (_, one), (_, other) in zip(view, view[1:]):
                        self.assertIs(table(one, other), True)
                    self.assertTrue(type(gap) is int and 0 <= gap <= len(view))
                    return namer(*arguments)

                def watched_table(*arguments):
                    one, other = arguments
                    self.assertTrue(strange.is_name(one) and strange.is_name(other) and one != other)
                    return table(one, other)

                found = foe(plan, watched_namer, watched_table)
                self.assertIs(is_foe(plan, watched_namer, watched_table, found), True)

    def test_new_lists(self):
        found = foe(THREE, plain_namer, plain_table)
        other = foe(THREE, plain_namer, plain_table)
        self.assertEqual(found, other)
        self.assertIsNot(found[1], other[1])
        found[1].clear()
        self.assertEqual(foe(THREE, plain_namer, plain_table), other)
        empty = foe((), plain_namer, plain_table)
        empty[1].append(0)
        self.assertEqual(foe((), plain_namer, plain_table), ("names", []))


def namer_of_fewer(many):
    """The ranks, but for the last one, which is made that ahead of it."""
    def namer(plan, item, view, gap):
        return min(rank_namer(plan, item, view, gap), many - 1)
    return namer


class IsFoe(unittest.TestCase):
    def assert_judged(self, plan, namer, table, thing):
        before = repr(thing)
        wanted = judged(plan, namer, table, thing)
        self.assertIs(is_foe(plan, namer, table, thing), wanted, thing)
        self.assertEqual(repr(thing), before)
        return wanted

    def changed(self, rows):
        """Lists that are no rows of a foe, each changed in one place."""
        run, item = rows[0]
        last = len(rows) - 1
        return [
            rows[1:], rows[:last], rows + [rows[0]], rows[:last] + [rows[0]], [rows[0], *rows[:last]], tuple(rows),
            [[run, item]] + rows[1:], [(list(run), item)] + rows[1:], [(run, item, 0)] + rows[1:],
            [(run,)] + rows[1:], [()] + rows[1:], [(run, -1)] + rows[1:], [(run, len(run))] + rows[1:],
            [(run, None)] + rows[1:], [(run, True)] + rows[1:], [(run, False)] + rows[1:], [(run, str(item))] + rows[1:],
            [(run[1:], item)] + rows[1:], [(run + (0,), item)] + rows[1:], [(item, run)] + rows[1:],
            [(run[:-1] + (len(run),), item)] + rows[1:], [(run[:-1] + (-1,), item)] + rows[1:],
            [((False,) + run[1:], item)] + rows[1:], dict(rows), None, [], rows[0],
        ]

    def test_rows_changed_in_one_place(self):
        for plan in [THREE, FORK, ((), (), (0, 1)), ((), (0,), (0,), (0, 1))]:
            rows = foe(plan, plain_namer, plain_table)[1]
            for changed in self.changed(rows):
                self.assertIs(is_foe(plan, plain_namer, plain_table, ("names", changed)), False, changed)
            for changed in [["names", rows], ("names", rows, rows), ("names",), ("name", rows), ("fault", rows),
                            (b"names", rows), rows, ("names", (0,) * len(plan), rows), ("NAMES", rows), {"names": rows}]:
                self.assertIs(is_foe(plan, plain_namer, plain_table, changed), False, changed)

    def test_rows_with_all_items_and_runs(self):
        for plan in [THREE, FORK]:
            rows = foe(plan, plain_namer, plain_table)[1]
            told = set()
            for at in range(len(rows)):
                for run in plainly.all_runs(plan):
                    for item in range(len(plan)):
                        changed = rows[:at] + [(run, item)] + rows[at + 1:]
                        told.add(self.assert_judged(plan, plain_namer, plain_table, ("names", changed)))
            self.assertEqual(told, {True, False})

    def test_rows_in_any_order(self):
        rows = foe(THREE, plain_namer, plain_table)[1]
        random.Random(133).shuffle(rows)
        self.assertIs(is_foe(THREE, plain_namer, plain_table, ("names", rows)), True)

    def test_rows_on_a_run_with_a_fault(self):
        # All names are unlike, but item 2 stands against item 1 on the last run alone.
        def table(one, other):
            if {one, other} == {"1.2", "0.1.2"}:
                return one == "1.2"
            return strange.chain_table(one, other)

        def namer(plan, item, view, gap):
            right = strange.chain_namer(range(3))(plan, item, view, gap)
            return None if right == "0.1.2" else right

        rows = foe(THREE, plain_namer, plain_table)[1]
        self.assertIs(is_foe(THREE, namer, table, ("names", rows)), False)
        self.assertIs(is_foe(THREE, namer, table, ("fault", (0, 1, 2), ("name", 2))), True)
        self.assertIs(is_foe(THREE, namer, table, ("fault", (0, 1, 1), ("name", 2))), False)
        self.assertIs(is_foe(THREE, namer, table, ("fault", (0, 1, 2), ("name", 1))), False)

    def test_more_names_than_chains(self):
        # There may be unlike names for more rows than there are chains; just so many are asked for.
        namer, table = strange.chain_namer(range(3)), strange.chain_table
        plan = ((), (), (0, 1))

        def longer(plan, item, view, gap):
            return namer(plan, item, view, gap) if item < 2 else "2." * (gap + 1) + "2"

        rows = [((0, 0, 0), 0), ((0, 0, 0), 1), ((0, 0, 0), 2), ((0, 0, 1), 2), ((0, 0, 2), 2)]
        self.assertEqual(chains(plan), 5)
        for many in range(6):
            self.assert_judged(plan, longer, table, ("names", rows[:many]))
        self.assert_judged(plan, longer, table, ("names", rows + rows[:1]))
        self.assertIs(is_foe(plan, namer, table, ("names", foe(plan, namer, table)[1])), True)

    def test_faults_changed_in_one_place(self):
        plan = ((), (), (), (0, 1))
        run = (0, 0, 0, 1)
        names = (0, 1, 2, 3)
        straight = {(0, 1), (0, 2), (1, 2)}
        for pairs, fault in [
            (set(), ("silent", 0, 1)),
            (straight | {(3, 0), (1, 3), (2, 3)}, ("against", 0, 3)),
            (straight | {(0, 3), (3, 1), (2, 3)}, ("round", 1, 2, 3)),
        ]:
            def namer(plan, item, view, gap):
                return names[item]

            def table(one, other):
                return (one, other) in pairs

            thing = ("fault", run, fault)
            self.assertIs(is_foe(plan, namer, table, thing), True)
            for changed in with_things(thing):
                wanted = strange.same(changed, thing) or judged(plan, namer, table, changed)
                self.assertIs(is_foe(plan, namer, table, changed), wanted, changed)
            flags = tuple(bool(part) if part in (0, 1) and type(part) is int else part for part in fault)
            for changed in [("fault", run, flags) if flags != fault or repr(flags) != repr(fault) else None,
                            ("fault", run, list(fault)), ("fault", list(run), fault), ["fault", run, fault],
                            ("fault", run, fault, fault), ("fault", run), ("names", run, fault), (run, fault),
                            ("fault", run, fault[:-1]), ("fault", run, fault + (0,)), ("fault", run, fault[0]),
                            ("fault", run, (fault[0].upper(),) + fault[1:]), ("Fault", run, fault),
                            ("fault", (False,) + run[1:], fault), ("fault", run[1:], fault)]:
                self.assertIs(is_foe(plan, namer, table, changed), False, changed)

    def test_what_is_told_without_a_fault_is_none(self):
        for plan in [(), ((),), THREE]:
            for run in plainly.all_runs(plan):
                told = played(plan, run, plain_namer, plain_table)
                self.assertIs(is_foe(plan, plain_namer, plain_table, ("fault", run, told)), False)
                self.assertIs(is_foe(plan, plain_namer, plain_table, ("fault", run, None)), False)

    def test_things_of_every_kind(self):
        for plan in [(), ((),), THREE]:
            for thing in things() + [("names", thing) for thing in things()]:
                self.assert_judged(plan, plain_namer, plain_table, thing)
            for thing in with_things(("names", foe(plan, plain_namer, plain_table)[1])):
                self.assert_judged(plan, plain_namer, plain_table, thing)
        self.assertIs(is_foe((), plain_namer, plain_table, ("names", [])), True)
        self.assertIs(is_foe((), plain_namer, plain_table, ("names", ())), False)


if __name__ == "__main__":
    unittest.main()
