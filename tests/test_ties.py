"""Ties [15]: groups, their names, and strangers played on them."""

import itertools
import random
import unittest

from putbetween.chains import chains
from putbetween.naming import names, standing
from putbetween.plans import all_plans
from putbetween.ties import many_tie_names, tie_names, tie_played, tie_standing, tie_told
from tests import plainly, strange, strange_ties

THREE = ((), (0,), (0, 1))
FORK = ((), (0,), (0,))
LINE = tuple(tuple(range(item)) for item in range(40))
APART = ((),) * 40

SMALL = [plan for many in range(5) for plan in all_plans(many)]
DRAWN = plainly.drawn_plans(401, 40, 8)
LARGE = plainly.drawn_plans(402, 10, 40) + [LINE, APART]

FAULTS = {"name", "same", "silent", "tied", "against", "round"}


class Own(Exception):
    """An error of a stranger's own."""


def runs_of(draw, plan, many):
    """All tie runs of a plan with few of them; otherwise some."""
    if len(plan) <= 3:
        return strange_ties.all_runs(plan)
    return [strange_ties.drawn_run(draw, plan) for _ in range(many)]


def gaps(*numbers):
    return tuple(("gap", number) for number in numbers)


def by_item(plan, item, view, place):
    return item


def table_of(told):
    """A table of items from what is told of the lesser one to the greater one."""
    turned = {"tied": "tied", "ahead": "behind", "behind": "ahead"}

    def table(one, other):
        return told[one, other] if one < other else turned[told[other, one]]

    return table


class Names(unittest.TestCase):
    def test_ordinary(self):
        self.assertEqual(tie_names((), ()), ())
        self.assertEqual(tie_standing((), ()), ())
        self.assertEqual(tie_names(((),), gaps(0)), (((0,), None),))
        self.assertEqual(tie_standing(((),), gaps(0)), ((0,),))
        run = (("gap", 0), ("tie", 0), ("gap", 1))
        self.assertEqual(tie_names(THREE, run), (((0,), None), ((0,), 1), ((0, 2), None)))
        self.assertEqual(tie_standing(THREE, run), ((0, 1), (2,)))
        run = (("gap", 0), ("gap", 0), ("tie", 0))
        self.assertEqual(tie_names(THREE, run), (((0,), None), ((1,), None), ((0,), 2)))
        self.assertEqual(tie_standing(THREE, run), ((1,), (0, 2)))
        # A tie to one that is itself tied, and gaps among groups of several.
        run = (("gap", 0), ("tie", 0), ("tie", 1), ("gap", 1), ("tie", 2), ("tie", 3), ("gap", 2), ("gap", 0))
        plan = LINE[:8]
        self.assertEqual(tie_standing(plan, run), ((7,), (0, 1, 2, 4), (3, 5), (6,)))
        self.assertEqual(tie_names(plan, run), (
            ((0,), None), ((0,), 1), ((0,), 2), ((0, 3), None), ((0,), 4), ((0, 3), 5), ((0, 3, 6), None), ((7,), None)))

    def test_tied_to_what_others_are_tied_to(self):
        # 2 and 3 are tied together by way of 0, though none of them has seen the other one.
        plan = ((), (), (0,), (0,), (0, 1, 2, 3))
        run = (("gap", 0), ("gap", 0), ("tie", 0), ("tie", 0), ("gap", 1))
        self.assertEqual(tie_standing(plan, run), ((1,), (4,), (0, 2, 3)))
        self.assertEqual(tie_names(plan, run[:4] + (("gap", 2),))[4], ((0, 4), None))
        self.assertEqual(tie_names(plan, run[:4] + (("tie", 3),))[4], ((0,), 4))

    def test_put_in_one_by_one(self):
        draw = random.Random(403)
        for plan in SMALL + DRAWN + LARGE:
            for run in runs_of(draw, plan, 10 if len(plan) < 20 else 2):
                self.assertTrue(strange.same(tie_names(plan, run), strange_ties.names(plan, run)), (plan, run))
                self.assertTrue(strange.same(tie_standing(plan, run), strange_ties.standing(plan, run)), (plan, run))

    def test_runs_without_ties_are_runs(self):
        draw = random.Random(404)
        for plan in SMALL + DRAWN + LARGE:
            run = plainly.drawn_run(draw, plan)
            self.assertEqual(tie_names(plan, gaps(*run)), tuple((chain, None) for chain in names(plan, run)))
            self.assertEqual(tie_standing(plan, gaps(*run)), tuple((item,) for item in standing(plan, run)))

    def test_all_tied(self):
        run = (("gap", 0),) + tuple(("tie", item) for item in range(39))
        self.assertEqual(tie_standing(LINE, run), (tuple(range(40)),))
        self.assertEqual(tie_names(LINE, run)[39], ((0,), 39))

    def test_many(self):
        self.assertEqual(many_tie_names(()), 0)
        self.assertEqual(many_tie_names(THREE), 11)
        self.assertEqual(many_tie_names(APART), 40)
        self.assertEqual(many_tie_names(LINE), 2 * (2 ** 40 - 1) - 40)
        for plan in [plan for plan in SMALL + DRAWN if len(plan) <= 5]:
            found = {name for run in strange_ties.all_runs(plan) for name in tie_names(plan, run)}
            self.assertEqual(many_tie_names(plan), len(found))
            self.assertTrue(all(strange_ties.is_name(name) for name in found))
        for plan in DRAWN + LARGE:
            self.assertEqual(many_tie_names(plan), 2 * chains(plan) - len(plan))


class Told(unittest.TestCase):
    def test_ordinary(self):
        self.assertEqual(tie_told(((0,), None), ((0,), 1)), "tied")
        self.assertEqual(tie_told(((0,), 2), ((0,), 1)), "tied")
        self.assertEqual(tie_told(((0,), None), ((1,), None)), "behind")
        self.assertEqual(tie_told(((0,), 2), ((0, 1), None)), "ahead")
        self.assertEqual(tie_told(((0, 3), 5), ((0, 2), 4)), "ahead")
        self.assertEqual(tie_told(((0, 39), None), ((0,), 39)), "behind")
        self.assertEqual(tie_told(((39,), None), ((38,), 39)), "ahead")

    def test_as_the_groups_stand(self):
        draw = random.Random(405)
        for plan in SMALL + DRAWN + LARGE[:4] + [LINE]:
            for run in runs_of(draw, plan, 6 if len(plan) < 20 else 1):
                at = {x: place for place, group in enumerate(tie_standing(plan, run)) for x in group}
                named = tie_names(plan, run)
                for one, other in itertools.permutations(range(len(plan)), 2):
                    wanted = "tied" if at[one] == at[other] else "ahead" if at[one] < at[other] else "behind"
                    self.assertEqual(tie_told(named[one], named[other]), wanted)


class Played(unittest.TestCase):
    def assert_played(self, plan, run, namer, table):
        wanted = strange_ties.played(plan, run, namer, table)
        found = tie_played(plan, run, namer, table)
        self.assertTrue(strange.same(found, wanted), (plan, run, found, wanted))
        return wanted

    def test_ordinary(self):
        right, table = strange_ties.right_namer(range(40)), strange_ties.right_table
        self.assertEqual(tie_played((), (), None, None), ("done", (), ()))
        run = (("gap", 0), ("tie", 0), ("gap", 1))
        self.assertEqual(tie_played(THREE, run, right, table), ("done", ("0", "0=1", "0.2"), ((0, 1), (2,))))
        run = (("gap", 0), ("gap", 0), ("tie", 0))
        self.assertEqual(tie_played(THREE, run, right, table), ("done", ("0", "1", "0=2"), ((1,), (0, 2))))

    def test_right_strangers(self):
        draw = random.Random(406)
        for plan in SMALL + DRAWN:
            own = strange_ties.right_namer(range(len(plan)))
            other = strange_ties.right_namer(strange.renumbered(draw, plan))
            for run in runs_of(draw, plan, 5):
                told = tie_played(plan, run, own, strange_ties.right_table)
                self.assertEqual((told[0], told[2]), ("done", tie_standing(plan, run)))
                self.assertEqual(self.assert_played(plan, run, other, strange_ties.right_table)[0], "done")

    def test_names_that_are_none_and_one_name_twice(self):
        run = gaps(0, 0, 0)
        table = lambda one, other: "ahead" if repr(one) < repr(other) else "behind"
        great = (1 - 10 ** 60, 10 ** 60 - 1, "~" * 60)
        for given, wanted in [
            ((5, 5, 5), ("same", 0, 1)), ((5, 6, 6), ("same", 1, 2)), (("a", "b", "a"), ("same", 0, 2)),
            *[((5, thing, 6), ("name", 1)) for thing in strange.NO_NAMES],
            *[((thing, 5, 5), ("name", 0)) for thing in strange.NO_NAMES],
        ]:
            namer = lambda plan, item, view, place: given[item]
            self.assertEqual(tie_played(APART[:3], run, namer, table), wanted)
        for given in [great, (1, "1", "01")]:
            told = tie_played(APART[:3], run, lambda plan, item, view, place: given[item], table)
            self.assertEqual(told[:2], ("done", given))

    def test_silent(self):
        run = (("gap", 0), ("tie", 0), ("gap", 1))
        right = {(0, 1): "tied", (1, 0): "tied", (0, 2): "ahead", (2, 0): "behind", (1, 2): "ahead", (2, 1): "behind"}
        self.assertEqual(tie_played(THREE, run, by_item, lambda *pair: right[pair])[0], "done")
        for one, other in right:
            for thing in strange_ties.NO_WORDS:
                told = tie_played(THREE, run, by_item, lambda *pair: thing if pair == (one, other) else right[pair])
                self.assertEqual(told, ("silent", min(one, other), max(one, other)))
            for word in strange_ties.WORDS:
                told = tie_played(THREE, run, by_item, lambda *pair: word if pair == (one, other) else right[pair])
                if word != right[one, other]:
                    self.assertEqual(told, ("silent", min(one, other), max(one, other)))

    def test_tied(self):
        for run, told, wanted in [
            (gaps(0, 1, 2), ("tied", "ahead", "ahead"), ("tied", 0, 1)),
            (gaps(0, 1, 2), ("ahead", "tied", "ahead"), ("tied", 0, 2)),
            (gaps(0, 1, 2), ("ahead", "ahead", "tied"), ("tied", 1, 2)),
            ((("gap", 0), ("tie", 0), ("gap", 1)), ("ahead", "ahead", "ahead"), ("tied", 0, 1)),
            ((("gap", 0), ("tie", 0), ("tie", 1)), ("tied", "ahead", "tied"), ("tied", 0, 2)),
            ((("gap", 0), ("tie", 0), ("tie", 0)), ("tied", "tied", "behind"), ("tied", 1, 2)),
            ((("gap", 0), ("tie", 0), ("tie", 1)), ("tied", "tied", "tied"), ("done", (0, 1, 2), ((0, 1, 2),))),
        ]:
            table = table_of(dict(zip([(0, 1), (0, 2), (1, 2)], told)))
            self.assertEqual(tie_played(THREE, run, by_item, table), wanted)
            self.assert_played(THREE, run, by_item, table)

    def test_ties_by_way_of_others(self):
        # 1 and 2 are tied by way of 0; none of them has seen the other one.
        run = (("gap", 0), ("tie", 0), ("tie", 0))
        for word in strange_ties.WORDS:
            table = table_of({(0, 1): "tied", (0, 2): "tied", (1, 2): word})
            wanted = ("done", (0, 1, 2), ((0, 1, 2),)) if word == "tied" else ("tied", 1, 2)
            self.assertEqual(tie_played(FORK, run, by_item, table), wanted)

    def test_against(self):
        for run, told, wanted in [
            (gaps(0, 0, 1), ("ahead", "ahead", "ahead"), ("against", 0, 1)),
            (gaps(0, 1, 1), ("ahead", "behind", "behind"), ("against", 0, 2)),
            (gaps(0, 1, 1), ("ahead", "ahead", "ahead"), ("against", 1, 2)),
            (gaps(0, 1, 1), ("ahead", "behind", "ahead"), ("against", 0, 2)),
            ((("gap", 0), ("gap", 1), ("tie", 1)), ("ahead", "behind", "tied"), ("against", 0, 2)),
            ((("gap", 0), ("gap", 1), ("tie", 0)), ("ahead", "tied", "ahead"), ("against", 1, 2)),
            ((("gap", 0), ("tie", 0), ("gap", 0)), ("tied", "ahead", "behind"), ("against", 0, 2)),
            ((("gap", 0), ("tie", 0), ("gap", 0)), ("tied", "behind", "ahead"), ("against", 1, 2)),
        ]:
            table = table_of(dict(zip([(0, 1), (0, 2), (1, 2)], told)))
            self.assertEqual(tie_played(THREE, run, by_item, table), wanted)
            self.assert_played(THREE, run, by_item, table)

    def test_round(self):
        cases = [
            # 2 is tied to 1, ahead of which stands 0, which 2 has not seen.
            (((), (), (1,)), (("gap", 0), ("gap", 0), ("tie", 1)), ("ahead", "behind", "tied"), ("round", 0, 1, 2)),
            (((), (), (1,)), (("gap", 0), ("gap", 0), ("tie", 1)), ("behind", "ahead", "tied"), ("round", 0, 1, 2)),
            (((), (), (0,)), (("gap", 0), ("gap", 0), ("tie", 0)), ("ahead", "tied", "ahead"), ("round", 0, 1, 2)),
            # 1 is tied to 0, and 2, which has seen none of them, stands between them.
            (((), (0,), ()), (("gap", 0), ("tie", 0), ("gap", 0)), ("tied", "ahead", "behind"), ("round", 0, 1, 2)),
            (((), (), ()), gaps(0, 0, 0), ("ahead", "behind", "ahead"), ("round", 0, 1, 2)),
            (((), (), ()), gaps(0, 0, 0), ("behind", "ahead", "behind"), ("round", 0, 1, 2)),
            (((), (), ()), gaps(0, 0, 0), ("ahead", "ahead", "behind"), ("done", (0, 1, 2), ((0,), (2,), (1,)))),
            (((), (), (1,)), (("gap", 0), ("gap", 0), ("tie", 1)), ("ahead", "ahead", "tied"),
             ("done", (0, 1, 2), ((0,), (1, 2)))),
        ]
        for plan, run, told, wanted in cases:
            table = table_of(dict(zip([(0, 1), (0, 2), (1, 2)], told)))
            self.assertEqual(tie_played(plan, run, by_item, table), wanted)
            self.assert_played(plan, run, by_item, table)

    def test_the_least_pair_goes_round(self):
        # What 4 is told to be to the others, in all ways.
        for words in itertools.product(["ahead", "behind"], repeat=4):
            told = {(one, other): "ahead" for one, other in itertools.combinations(range(4), 2)}
            told.update({(one, 4): word for one, word in enumerate(words)})
            self.assert_played(APART[:5], gaps(0, 0, 0, 0, 0), by_item, table_of(told))

    def test_three_items_in_all_ways(self):
        # Whatever is told of three items, on all tie runs of all plans.
        met = set()
        for plan in all_plans(3):
            for run in strange_ties.all_runs(plan):
                for words in itertools.product(strange_ties.WORDS, repeat=3):
                    table = table_of(dict(zip([(0, 1), (0, 2), (1, 2)], words)))
                    met.add(self.assert_played(plan, run, by_item, table)[0])
        self.assertEqual(met, {"tied", "against", "round", "done"})

    def test_four_items_in_many_ways(self):
        draw = random.Random(407)
        pairs = list(itertools.combinations(range(4), 2))
        for plan in all_plans(4):
            for run in draw.sample(runs_of(draw, plan, 6), 6):
                words = list(itertools.product(strange_ties.WORDS, repeat=6))
                for told in draw.sample(words, 15):
                    self.assert_played(plan, run, by_item, table_of(dict(zip(pairs, told))))

    def test_strangers_of_each_kind(self):
        draw = random.Random(408)
        told = set()
        for plan in SMALL + DRAWN * 2 + plainly.drawn_plans(409, 6, 20):
            for namer, table in strange_ties.strangers(draw, plan):
                for run in draw.sample(runs_of(draw, plan, 3), min(3, len(runs_of(draw, plan, 3)))):
                    told.add(self.assert_played(plan, run, namer, table)[0])
        self.assertEqual(told, FAULTS | {"done"})

    def test_40_items(self):
        draw = random.Random(410)
        for plan in [LINE, APART, plainly.near_plan(draw, 40)]:
            run = strange_ties.drawn_run(draw, plan)
            told = tie_played(plan, run, strange_ties.right_namer(range(40)), strange_ties.right_table)
            self.assertEqual((told[0], told[2]), ("done", tie_standing(plan, run)))

    def test_how_strangers_are_called(self):
        draw = random.Random(411)
        for plan in SMALL[::2] + DRAWN:
            run = strange_ties.drawn_run(draw, plan)
            right = strange_ties.right_namer(strange.renumbered(draw, plan))
            told, named, groups = strange_ties.played(plan, run, right, strange_ties.right_table)
            calls = []

            def namer(*arguments):
                calls.append(arguments)
                return right(*arguments)

            def table(*arguments):
                one, other = arguments
                self.assertTrue(strange.is_name(one) and strange.is_name(other) and one != other)
                return strange_ties.right_table(one, other)

            self.assertEqual(tie_played(plan, run, namer, table), ("done", named, groups))
            wanted = []
            for item, seen in enumerate(plan):
                parts = [tuple((u, named[u]) for u in group if u in seen) for group in groups]
                wanted.append((plan, item, tuple(part for part in parts if part), run[item]))
            self.assertTrue(all(any(strange.same(call, other) for other in wanted) for call in calls))
            self.assertTrue(all(call in calls for call in wanted))

    def test_tables_are_asked_of_unlike_names_alone(self):
        draw = random.Random(412)
        for plan in SMALL[::2]:
            for namer, told in strange_ties.strangers(draw, plan):
                def table(*arguments):
                    one, other = arguments
                    self.assertTrue(strange.is_name(one) and strange.is_name(other) and one != other)
                    return told(one, other)
                tie_played(plan, strange_ties.drawn_run(draw, plan), namer, table)

    def test_errors_of_strangers_go_on(self):
        def no_namer(plan, item, view, place):
            raise Own("a")

        def no_table(one, other):
            raise Own("b")

        for plan in [THREE, FORK, ((), ())]:
            run = gaps(*[0] * len(plan))
            self.assertRaisesRegex(Own, "a", tie_played, plan, run, no_namer, strange_ties.right_table)
            self.assertRaisesRegex(Own, "b", tie_played, plan, run, by_item, no_table)


if __name__ == "__main__":
    unittest.main()
