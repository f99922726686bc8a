"""Naming [4.2] and runs with told names [4.4]."""

import itertools
import random
import unittest

from putbetween.naming import names, run_with, standing, view
from putbetween.plans import all_plans
from putbetween.ranks import all_chains
from tests import plainly

THREE = ((), (0,), (0, 1))
LINE = tuple(tuple(range(item)) for item in range(40))
APART = ((),) * 40

SMALL = [plan for many in range(5) for plan in all_plans(many)] + plainly.drawn_plans(61, 20, 6)
LARGE = plainly.drawn_plans(62, 30, 40) + [LINE, APART]


def runs_of(plans, seed):
    """Pairs of each plan and some of its runs, the first and the last one among them."""
    draw = random.Random(seed)
    pairs = []
    for plan in plans:
        runs = [(0,) * len(plan), tuple(len(row) for row in plan)]
        pairs.extend((plan, run) for run in runs + [plainly.drawn_run(draw, plan) for _ in range(4)])
    return pairs


RUNS = [(plan, run) for plan in SMALL for run in plainly.all_runs(plan)] + runs_of(LARGE, 63)


class Naming(unittest.TestCase):
    def test_ordinary(self):
        self.assertEqual(names((), ()), ())
        self.assertEqual(standing((), ()), ())
        self.assertEqual(names(((),), (0,)), ((0,),))
        self.assertEqual(standing(((),), (0,)), (0,))
        self.assertEqual(view(((),), (0,), 0), ())
        self.assertEqual(names(THREE, (0, 0, 1)), ((0,), (1,), (1, 2)))
        self.assertEqual(standing(THREE, (0, 0, 1)), (1, 2, 0))
        self.assertEqual(view(THREE, (0, 0, 1), 2), (1, 0))
        self.assertEqual(view(THREE, (0, 0, 1), 1), (0,))
        self.assertEqual(view(THREE, (0, 1, 0), 2), (0, 1))

    def test_put_in_one_by_one(self):
        for plan, run in RUNS:
            named = plainly.names(plan, run)
            order = plainly.standing(plan, run)
            self.assertEqual(names(plan, run), named)
            self.assertEqual(standing(plan, run), order)
            for item, row in enumerate(plan):
                self.assertEqual(view(plan, run, item), tuple(other for other in order if other in row))

    def test_gap_0_and_as_many_as_it_has_seen(self):
        self.assertEqual(names(LINE, (0,) * 40), tuple((item,) for item in range(40)))
        self.assertEqual(standing(LINE, (0,) * 40), tuple(reversed(range(40))))
        whole = tuple(range(40))
        self.assertEqual(names(LINE, whole), tuple(whole[:item + 1] for item in whole))
        self.assertEqual(standing(LINE, whole), whole)
        self.assertEqual(view(LINE, whole, 39), whole[:39])
        self.assertEqual(standing(APART, (0,) * 40), tuple(reversed(range(40))))
        self.assertEqual(view(APART, (0,) * 40, 39), ())

    def test_tuples_of_tuples_of_integers(self):
        for plan, run in [((), ()), (THREE, (0, 1, 1))]:
            for found in [names(plan, run), standing(plan, run)] + list(names(plan, run)):
                self.assertIs(type(found), tuple)
        self.assertIs(type(view(THREE, (0, 0, 0), 0)), tuple)

    def test_first_fact(self):
        for plan, run in RUNS:
            order = standing(plan, run)
            for item, row in enumerate(plan):
                ahead = order[:order.index(item)]
                self.assertEqual(sum(seen in ahead for seen in row), run[item])

    def test_the_names_that_can_come_are_just_the_chains(self):
        for plan in SMALL:
            found = {name for run in plainly.all_runs(plan) for name in names(plan, run)}
            self.assertEqual(found, set(plainly.all_chains(plan)))


class RunWith(unittest.TestCase):
    def assert_with(self, plan, row):
        """Hold that there is a run with these names exactly if the FACT tells so."""
        before = repr(row)
        run = run_with(plan, row)
        self.assertEqual(repr(row), before)
        wanted = {}
        for chain in row:
            for many in range(1, len(chain) + 1):
                wanted.setdefault(chain[many - 1], set()).add(chain[:many])
        if any(len(unlike) > 1 for unlike in wanted.values()):
            self.assertIsNone(run, (plan, row))
        else:
            self.assertTrue(plainly.is_run(plan, run), (plan, row))
            named = plainly.names(plan, run)
            for chain in row:
                self.assertEqual(named[chain[-1]], chain, (plan, row))

    def test_ordinary(self):
        self.assertEqual(run_with(THREE, [(0, 1, 2)]), (0, 1, 2))
        self.assertEqual(run_with(THREE, ((0,), (1,), (1, 2))), (0, 0, 1))
        self.assertEqual(run_with((), []), ())
        self.assertEqual(run_with((), ()), ())
        self.assert_with(THREE, [(1, 2)])
        self.assert_with(THREE, [(2,), (0, 1)])

    def test_no_chains(self):
        for plan in SMALL + LARGE:
            self.assert_with(plan, [])
            self.assert_with(plan, ())

    def test_two_unlike_chains_that_end_with_one_item(self):
        self.assertIsNone(run_with(THREE, [(2,), (1, 2)]))
        self.assertIsNone(run_with(THREE, [(0, 1, 2), (0, 2)]))
        self.assertEqual(run_with(THREE, [(0, 1, 2), (0, 1, 2)]), (0, 1, 2))

    def test_beginnings_that_clash(self):
        four = LINE[:4]
        self.assertIsNone(run_with(four, [(0, 1, 2), (1, 3)]))
        self.assertIsNone(run_with(four, ((1, 2), (0, 1, 3))))
        self.assertIsNone(run_with(four, [(0, 1), (1, 3)]))
        self.assertIsNone(run_with(four, [(1, 3), (0, 1)]))
        self.assert_with(four, [(0, 1, 2), (0, 1, 3)])

    def test_all_rows_of_one_and_two_chains(self):
        for plan in [plan for many in range(5) for plan in all_plans(many)]:
            listed = plainly.all_chains(plan)
            for row in [[chain] for chain in listed] + list(itertools.product(listed, repeat=2)):
                self.assert_with(plan, row)

    def test_against_all_runs(self):
        draw = random.Random(64)
        for plan in SMALL:
            runs = [set(plainly.names(plan, run)) for run in plainly.all_runs(plan)]
            listed = plainly.all_chains(plan)
            for many in range(min(len(listed), 4) + 1):
                row = draw.sample(listed, many)
                some = any(set(row) <= named for named in runs)
                self.assertIs(run_with(plan, row) is not None, some, (plan, row))
                self.assert_with(plan, tuple(row))

    def test_the_names_of_a_run(self):
        draw = random.Random(65)
        for plan, run in runs_of(LARGE, 66):
            named = list(plainly.names(plan, run))
            self.assertEqual(run_with(plan, named), run)
            draw.shuffle(named)
            self.assertEqual(run_with(plan, named), run)
            self.assert_with(plan, named[:3])

    def test_many_chains(self):
        whole = tuple(range(40))
        self.assert_with(LINE, [whole[:many % 40 + 1] for many in range(400)])
        self.assertIsNone(run_with(LINE[:12], all_chains(LINE[:12])))
        self.assertEqual(run_with(APART, [(39,)] * 5000), (0,) * 40)


if __name__ == "__main__":
    unittest.main()
