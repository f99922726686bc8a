"""Playing [6]: what is told of strangers on one run, and on all runs."""

import itertools
import random
import unittest

from putbetween.naming import names, standing
from putbetween.plans import all_plans
from putbetween.playing import faulty, plain_namer, plain_table, played, rank_namer, rank_table
from putbetween.ranks import rank
from putbetween.words import words
from tests import plainly, strange

THREE = ((), (0,), (0, 1))
FORK = ((), (0,), (0,))
APART = ((), (), (), ())
LINE = tuple(tuple(range(item)) for item in range(40))

SMALL = [plan for many in range(5) for plan in all_plans(many)]
DRAWN = plainly.drawn_plans(101, 20, 7)
LARGE = plainly.drawn_plans(102, 20, 40) + [LINE, ((),) * 40]


class Own(Exception):
    """An error of a stranger's own."""


def by_item(*names):
    """A namer that gives each item its name of these, whatever the gap."""
    return lambda plan, item, view, gap: names[item]


def by_gap(names):
    """A namer that looks up the pair of the item and its gap."""
    return lambda plan, item, view, gap: names[(item, gap)]


def less(one, other):
    return one < other


def of_pairs(*pairs):
    """A table of the pairs that it tells to be ahead."""
    return lambda one, other: (one, other) in pairs


class Played(unittest.TestCase):
    def assert_played(self, plan, run, namer, table):
        told = strange.played(plan, run, namer, table)
        found = played(plan, run, namer, table)
        self.assertTrue(strange.same(found, told), (plan, run, found, told))
        return told

    def test_ordinary(self):
        self.assertEqual(
            played(THREE, (0, 0, 1), plain_namer, plain_table), ("done", ("z", "y", "yx"), (1, 2, 0)))
        self.assertEqual(played((), (), plain_namer, plain_table), ("done", (), ()))
        self.assertEqual(played(((),), (0,), rank_namer, rank_table), ("done", (0,), (0,)))
        self.assertEqual(played(THREE, (0, 1, 2), rank_namer, rank_table), ("done", (3, 5, 6), (0, 1, 2)))

    def test_names_that_are_none(self):
        for thing in strange.NO_NAMES:
            for at in range(3):
                given = [5, 6, 7]
                given[at] = thing
                self.assertEqual(played(((),) * 3, (0, 0, 0), by_item(*given), less), ("name", at))
        for name in ["", " ", "~" * 60, 0, -1, 10 ** 60 - 1, 1 - 10 ** 60]:
            self.assertEqual(played(((),), (0,), by_item(name), less), ("done", (name,), (0,)))

    def test_one_name_twice(self):
        run = (0, 0, 0, 0)
        self.assertEqual(played(APART, run, by_item(5, 5, 5, 5), less), ("same", 0, 1))
        self.assertEqual(played(APART, run, by_item(4, 5, 5, 4), less), ("same", 1, 2))
        self.assertEqual(played(APART, run, by_item(3, 4, 5, 4), less), ("same", 1, 3))
        self.assertEqual(played(APART, run, by_item("a", "b", "c", "a"), less), ("same", 0, 3))

    def test_names_that_look_alike(self):
        namer = by_item(1, "1", "01", " 1")
        table = strange.drawn_table(1)
        self.assertNotIn(played(APART, (0,) * 4, namer, table)[0], ("name", "same"))
        right = of_pairs((1, "1"), (1, "01"), (1, " 1"), ("1", "01"), ("1", " 1"), ("01", " 1"))
        self.assertEqual(
            played(APART, (0,) * 4, namer, right), ("done", (1, "1", "01", " 1"), (0, 1, 2, 3)))

    def test_long_names(self):
        long = ["~" * 59 + sign for sign in "abc"]
        self.assertEqual(played(APART[:3], (0,) * 3, by_item(*long), less), ("done", tuple(long), (0, 1, 2)))
        great = [10 ** 60 - 3, 10 ** 60 - 1, 10 ** 60 - 2]
        self.assertEqual(played(APART[:3], (0,) * 3, by_item(*great), less), ("done", tuple(great), (0, 2, 1)))
        self.assertEqual(played(APART[:3], (0,) * 3, by_item(great[0], great[1], great[0]), less), ("same", 0, 2))

    def test_tables_that_tell_no_flag_or_one_thing_both_ways_about(self):
        for thing in strange.NO_FLAGS + [True, False]:
            for at in range(1, 4):
                for other in range(at):
                    def table(one, another):
                        return thing if {one, another} == {other, at} else one < another
                    told = played(APART, (0,) * 4, by_item(0, 1, 2, 3), table)
                    self.assertEqual(told, ("silent", other, at))
            self.assertEqual(played(APART, (0,) * 4, by_item(0, 1, 2, 3), lambda *_: thing), ("silent", 0, 1))

    def test_a_flag_one_way_about_only(self):
        for wrong in [None, 0, 1, "False", (), []]:
            for told in (True, False):
                namer = by_item(0, 1)
                self.assertEqual(
                    played(((), ()), (0, 0), namer, lambda one, _: told if one else wrong), ("silent", 0, 1))
                self.assertEqual(
                    played(((), ()), (0, 0), namer, lambda one, _: wrong if one else told), ("silent", 0, 1))

    def test_against_what_a_hand_did(self):
        self.assertEqual(played(((), (0,)), (0, 1), by_item(1, 0), less), ("against", 0, 1))
        self.assertEqual(played(((), (0,)), (0, 0), by_item(0, 1), less), ("against", 0, 1))
        self.assertEqual(played(((), (0,)), (0, 0), by_item(1, 0), less), ("done", (1, 0), (1, 0)))
        self.assertEqual(played(((), ()), (0, 0), by_item(0, 1), less), ("done", (0, 1), (0, 1)))
        four = ((), (), (), (0, 1, 2))
        self.assertEqual(played(four, (0, 0, 0, 2), by_item(0, 2, 4, 5), less), ("against", 2, 3))
        self.assertEqual(played(four, (0, 0, 0, 2), by_item(4, 2, 0, 3), less), ("done", (4, 2, 0, 3), (2, 1, 3, 0)))
        self.assertEqual(played(four, (0, 0, 0, 0), by_item(4, 2, 0, 3), less), ("against", 1, 3))
        self.assertEqual(played(four, (0, 0, 0, 3), by_item(4, 2, 6, 3), less), ("against", 0, 3))

    def test_answers_that_go_round(self):
        three = ((),) * 3
        for pairs in [((0, 1), (1, 2), (2, 0)), ((1, 0), (2, 1), (0, 2))]:
            self.assertEqual(played(three, (0, 0, 0), by_item(0, 1, 2), of_pairs(*pairs)), ("round", 0, 1, 2))
        first = [(0, 1), (0, 2), (1, 2)]
        # The fourth item stands behind 2 and ahead of 1 or 0.
        self.assertEqual(
            played(APART, (0,) * 4, by_item(0, 1, 2, 3), of_pairs(*first, (2, 3), (3, 1), (0, 3))),
            ("round", 1, 2, 3))
        self.assertEqual(
            played(APART, (0,) * 4, by_item(0, 1, 2, 3), of_pairs(*first, (2, 3), (3, 0), (1, 3))),
            ("round", 0, 1, 3))
        self.assertEqual(
            played(APART, (0,) * 4, by_item(0, 1, 2, 3), of_pairs(*first, (2, 3), (3, 0), (3, 1))),
            ("round", 0, 2, 3))

    def test_the_least_pair_that_goes_round(self):
        for flags in itertools.product((True, False), repeat=10):
            pairs = []
            for (one, other), flag in zip(itertools.combinations(range(5), 2), flags):
                pairs.append((one, other) if flag else (other, one))
            self.assert_played(((),) * 5, (0,) * 5, by_item(0, 1, 2, 3, 4), of_pairs(*pairs))

    def test_which_fault_comes_first(self):
        four = ((), (), (), (0, 1))
        run = (0, 0, 0, 1)
        going_round = [(0, 1), (1, 2), (2, 0)]
        self.assertEqual(played(four, run, by_item(0, 1, None, 1), of_pairs(*going_round)), ("name", 2))
        self.assertEqual(played(four, run, by_item(0, 1, 0, None), of_pairs()), ("silent", 0, 1))
        self.assertEqual(played(four, run, by_item(0, 1, 1, None), less), ("same", 1, 2))
        straight = [(0, 1), (0, 2), (1, 2)]
        # Behind item 3: silent about 2, against what is told of 1, and round.
        self.assertEqual(
            played(four, run, by_item(0, 1, 2, 3), of_pairs(*straight, (3, 0), (1, 3))), ("silent", 2, 3))
        self.assertEqual(
            played(four, run, by_item(0, 1, 2, 3), of_pairs(*straight, (3, 0), (1, 3), (2, 3))), ("against", 0, 3))
        self.assertEqual(
            played(four, run, by_item(0, 1, 2, 3), of_pairs(*straight, (0, 3), (1, 3), (3, 2))), ("against", 1, 3))
        self.assertEqual(
            played(four, run, by_item(0, 1, 2, 3), of_pairs(*straight, (0, 3), (3, 1), (2, 3))),
            ("round", 1, 2, 3))
        self.assertEqual(played(four, run, by_item(0, 1, 2, 1), lambda one, other: None), ("silent", 0, 1))
        self.assertEqual(played(four, run, by_item(0, 1, 2, 2), less), ("same", 2, 3))

    def test_put_in_one_by_one(self):
        draw = random.Random(103)
        told = set()
        for plan in SMALL + DRAWN:
            runs = [plainly.drawn_run(draw, plan) for _ in range(3)]
            for namer, table in strange.strangers(draw, plan):
                told.update(self.assert_played(plan, run, namer, table)[0] for run in runs)
        self.assertEqual(told, {"name", "same", "silent", "against", "round", "done"})

    def test_put_in_one_by_one_on_all_runs(self):
        draw = random.Random(104)
        for plan in SMALL[::3]:
            for namer, table in strange.strangers(draw, plan):
                for run in plainly.all_runs(plan):
                    self.assert_played(plan, run, namer, table)

    def test_large_plans(self):
        draw = random.Random(105)
        for plan in plainly.drawn_plans(106, 12, 24):
            run = plainly.drawn_run(draw, plan)
            for namer, table in strange.strangers(draw, plan):
                self.assert_played(plan, run, namer, table)

    def test_how_strangers_are_called(self):
        draw = random.Random(107)
        for plan in SMALL[::4] + DRAWN + plainly.drawn_plans(108, 6, 20):
            numbers = strange.renumbered(draw, plan)
            right = strange.chain_namer(numbers)
            run = plainly.drawn_run(draw, plan)
            done, named, order = strange.played(plan, run, right, strange.chain_table)
            self.assertEqual(done, "done")
            calls = []

            def namer(*arguments):
                calls.append(arguments)
                return right(*arguments)

            def table(*arguments):
                one, other = arguments
                self.assertTrue(strange.is_name(one) and strange.is_name(other))
                self.assertNotEqual(one, other)
                return strange.chain_table(one, other)

            self.assertEqual(played(plan, run, namer, table), ("done", named, order))
            views = [tuple((u, named[u]) for u in order if u in row) for row in plan]
            wanted = [(plan, item, view, run[item]) for item, view in enumerate(views)]
            for call in calls:
                self.assertTrue(any(strange.same(call, other) for other in wanted), call)
            for call in wanted:
                self.assertIn(call, calls)

    def test_tables_are_asked_of_unlike_names_alone(self):
        draw = random.Random(109)
        for plan in SMALL + DRAWN:
            for namer, told in strange.strangers(draw, plan):
                def table(*arguments):
                    one, other = arguments
                    self.assertTrue(strange.is_name(one) and strange.is_name(other) and one != other)
                    return told(one, other)
                played(plan, plainly.drawn_run(draw, plan), namer, table)

    def test_errors_of_strangers_go_on(self):
        def no_namer(plan, item, view, gap):
            if item == 2:
                raise Own("a")
            return item

        def no_table(one, other):
            if 2 in (one, other):
                raise Own("b")
            return one < other

        self.assertRaisesRegex(Own, "a", played, APART, (0,) * 4, no_namer, less)
        self.assertRaisesRegex(Own, "b", played, APART, (0,) * 4, by_item(0, 1, 2, 3), no_table)
        self.assertRaisesRegex(Own, "a", faulty, THREE, no_namer, lambda one, other: one > other)
        self.assertRaisesRegex(Own, "b", faulty, APART, by_item(0, 1, 2, 3), no_table)
        # A fault ahead of the error is told.
        self.assertEqual(played(APART, (0,) * 4, no_namer, lambda one, other: None), ("silent", 0, 1))
        self.assertEqual(played(APART, (0,) * 4, by_item(5, 5, 2, 3), no_table), ("same", 0, 1))

    def test_tuples(self):
        for run in [(0, 0, 0), (0, 1, 2)]:
            told = played(THREE, run, plain_namer, plain_table)
            for thing in (told, told[1], told[2]):
                self.assertIs(type(thing), tuple)
            self.assertEqual(len(told), 3)
        self.assertIs(type(played(THREE, (0, 0, 0), by_item(0, 0, 0), less)), tuple)


class Faulty(unittest.TestCase):
    def assert_faulty(self, plan, namer, table):
        told = strange.faulty(plainly.all_runs(plan), lambda run: strange.played(plan, run, namer, table))
        found = faulty(plan, namer, table)
        self.assertTrue(strange.same(found, told), (plan, found, told))
        return told

    def test_ordinary(self):
        self.assertIsNone(faulty((), plain_namer, plain_table))
        self.assertIsNone(faulty(THREE, plain_namer, plain_table))
        self.assertEqual(faulty(THREE, by_item(2, 1, 0), less), ((0, 0, 1), ("against", 1, 2)))
        self.assertEqual(faulty(THREE, by_item(1, 2, 3), less), ((0, 0, 0), ("against", 0, 1)))
        self.assertEqual(faulty(((),), by_item(None), less), ((0,), ("name", 0)))
        namer = by_gap({(0, 0): 4, (1, 0): 3, (1, 1): 5, (2, 0): 2, (2, 1): 4})
        self.assertEqual(faulty(FORK, namer, less), ((0, 0, 1), ("same", 0, 2)))

    def test_the_first_run_with_a_fault(self):
        draw = random.Random(110)
        for plan in SMALL + plainly.drawn_plans(111, 15, 6):
            for namer, table in strange.strangers(draw, plan):
                self.assert_faulty(plan, namer, table)

    def test_a_fault_on_the_last_run_alone(self):
        for plan in [THREE, FORK, ((), (0,), (0, 1), (0, 1, 2)), ((), (), (0, 1), (0, 1))]:
            for item in range(len(plan)):
                last = tuple(len(row) for row in plan)

                def namer(_, x, view, gap):
                    name = plain_namer(plan, x, view, gap)
                    taken = plainly.names(plan, last)[x]
                    return None if x == item and name == "".join("zyxw"[u] for u in taken) else name

                told = self.assert_faulty(plan, namer, plain_table)
                self.assertEqual(told[1], ("name", item))
                seen = plan[item] + (item,)
                self.assertEqual([told[0][u] for u in seen], [last[u] for u in seen])

    def test_plain_and_rank_strangers_on_all_runs(self):
        for plan in SMALL + plainly.drawn_plans(112, 20, 6):
            for run in plainly.all_runs(plan):
                order = standing(plan, run)
                ranks = tuple(rank(plan, chain) for chain in names(plan, run))
                self.assertEqual(played(plan, run, plain_namer, plain_table), ("done", words(plan, run), order))
                self.assertEqual(played(plan, run, rank_namer, rank_table), ("done", ranks, order))
            self.assertIsNone(faulty(plan, plain_namer, plain_table))
            self.assertIsNone(faulty(plan, rank_namer, rank_table))

    def test_fourth_fact(self):
        draw = random.Random(113)
        for plan in LARGE + plainly.drawn_plans(114, 10, 26) + [LINE[:26]]:
            for _ in range(3):
                run = plainly.drawn_run(draw, plan)
                order = standing(plan, run)
                ranks = tuple(rank(plan, chain) for chain in names(plan, run))
                self.assertEqual(played(plan, run, rank_namer, rank_table), ("done", ranks, order))
                if len(plan) <= 26:
                    self.assertEqual(played(plan, run, plain_namer, plain_table), ("done", words(plan, run), order))

    def test_right_strangers_of_other_kinds(self):
        draw = random.Random(115)
        for plan in SMALL + plainly.drawn_plans(116, 20, 6):
            namer = strange.chain_namer(strange.renumbered(draw, plan))
            self.assertIsNone(faulty(plan, namer, strange.chain_table))

    def test_40_items(self):
        plan = LINE[:5] + ((),) * 35
        self.assertIsNone(faulty(plan, rank_namer, rank_table))

        def late(plan, item, view, gap):
            return True if item == 4 and gap == 2 and view[0][0] == 1 else rank_namer(plan, item, view, gap)

        run = (0, 0, 1, 1, 2) + (0,) * 35
        self.assertEqual(faulty(plan, late, rank_table), (run, ("name", 4)))
        for other in plainly.all_runs(plan):
            self.assertEqual(played(plan, other, late, rank_table)[0], "name" if other == run else "done")
            if other == run:
                break

    def test_5000_runs(self):
        plan = ((),) * 4 + ((0, 1, 2, 3),) * 4 + ((0,),) * 3
        self.assertEqual(len(plainly.all_runs(plan)), 5000)
        self.assertIsNone(faulty(plan, rank_namer, rank_table))
        last = tuple(len(row) for row in plan)

        def namer(plan, item, view, gap):
            # The last item knows of no run but by its view, so the fault comes with its gap.
            return (item,) if item == 10 and gap == 1 else rank_namer(plan, item, view, gap)

        self.assertEqual(faulty(plan, namer, rank_table), ((0,) * 10 + (1,), ("name", 10)))
        self.assertEqual(played(plan, last, namer, rank_table), ("name", 10))


class OwnStrangers(unittest.TestCase):
    def test_plain_namer(self):
        self.assertEqual(plain_namer(THREE, 0, (), 0), "z")
        self.assertEqual(plain_namer(THREE, 2, ((1, "y"), (0, "z")), 0), "x")
        self.assertEqual(plain_namer(THREE, 2, ((1, "y"), (0, "z")), 1), "yx")
        self.assertEqual(plain_namer(THREE, 2, ((1, "y"), (0, "z")), 2), "zx")
        self.assertEqual(plain_namer(LINE[:26], 25, tuple((u, "zyxwvutsrqponmlkjihgfedcb"[u]) for u in range(25)), 3),
                         "xa")

    def test_rank_namer(self):
        self.assertEqual(rank_namer(THREE, 0, (), 0), 3)
        self.assertEqual(rank_namer(THREE, 2, ((1, 1), (0, 3)), 0), 0)
        self.assertEqual(rank_namer(THREE, 2, ((1, 1), (0, 3)), 1), 2)
        self.assertEqual(rank_namer(THREE, 2, ((1, 1), (0, 3)), 2), 4)

    def test_tables(self):
        self.assertIs(plain_table("z", "y"), False)
        self.assertIs(plain_table("y", "z"), True)
        self.assertIs(plain_table("z", "zy"), True)
        self.assertIs(plain_table("zy", "z"), False)
        self.assertIs(rank_table(3, 4), True)
        self.assertIs(rank_table(4, 3), False)
        self.assertIs(rank_table(9, 10), True)


if __name__ == "__main__":
    unittest.main()
