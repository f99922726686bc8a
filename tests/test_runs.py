"""Runs [4.1] and the runs of orders [4.3]."""

import itertools
import math
import random
import unittest

from putbetween.naming import standing
from putbetween.plans import all_plans
from putbetween.runs import many_runs, number_of, run_at, run_of
from tests import plainly

THREE = ((), (0,), (0, 1))
LINE = tuple(tuple(range(item)) for item in range(40))
APART = ((),) * 40

SMALL = [plan for many in range(5) for plan in all_plans(many)] + plainly.drawn_plans(51, 20, 6)
LARGE = plainly.drawn_plans(52, 30, 40) + [LINE, APART]


class Numbers(unittest.TestCase):
    def test_ordinary(self):
        self.assertEqual(many_runs(()), 1)
        self.assertEqual(run_at((), 0), ())
        self.assertEqual(number_of((), ()), 0)
        self.assertEqual(many_runs(((),)), 1)
        self.assertEqual(run_at(((),), 0), (0,))
        self.assertEqual(many_runs(THREE), 6)
        self.assertEqual(run_at(THREE, 0), (0, 0, 0))
        self.assertEqual(run_at(THREE, 1), (0, 0, 1))
        self.assertEqual(run_at(THREE, 3), (0, 1, 0))
        self.assertEqual(run_at(THREE, 5), (0, 1, 2))
        self.assertEqual(number_of(THREE, (0, 1, 1)), 4)

    def test_all_runs_listed(self):
        for plan in SMALL:
            listed = plainly.all_runs(plan)
            self.assertEqual(listed, sorted(listed))
            self.assertEqual(many_runs(plan), len(listed))
            for number, run in enumerate(listed):
                self.assertEqual(run_at(plan, number), run)
                self.assertEqual(number_of(plan, run), number)

    def test_40_items(self):
        self.assertEqual(many_runs(LINE), math.factorial(40))
        self.assertEqual(many_runs(APART), 1)
        self.assertEqual(run_at(LINE, math.factorial(40) - 1), tuple(range(40)))
        self.assertEqual(number_of(LINE, tuple(range(40))), math.factorial(40) - 1)
        self.assertEqual(run_at(LINE, 0), (0,) * 40)
        self.assertEqual(number_of(APART, (0,) * 40), 0)

    def test_large_plans(self):
        draw = random.Random(53)
        for plan in LARGE:
            many = many_runs(plan)
            self.assertEqual(many, math.prod(len(row) + 1 for row in plan))
            self.assertEqual(run_at(plan, many - 1), tuple(len(row) for row in plan))
            for number in [0, many - 1] + [draw.randrange(many) for _ in range(10)]:
                run = run_at(plan, number)
                self.assertTrue(plainly.is_run(plan, run))
                self.assertEqual(number_of(plan, run), number)
            runs = sorted(plainly.drawn_run(draw, plan) for _ in range(10))
            numbers = [number_of(plan, run) for run in runs]
            self.assertEqual(numbers, sorted(numbers))
            self.assertEqual([run_at(plan, number) for number in numbers], runs)


class RunOf(unittest.TestCase):
    def test_ordinary(self):
        self.assertEqual(run_of((), ()), ())
        self.assertEqual(run_of(((),), (0,)), (0,))
        self.assertEqual(run_of(THREE, (1, 2, 0)), (0, 0, 1))
        self.assertEqual(run_of(THREE, (0, 1, 2)), (0, 1, 2))
        self.assertEqual(run_of(THREE, (2, 1, 0)), (0, 0, 0))
        self.assertEqual(run_of(LINE, tuple(range(40))), tuple(range(40)))
        self.assertEqual(run_of(LINE, tuple(reversed(range(40)))), (0,) * 40)

    def test_counted(self):
        draw = random.Random(54)
        drawn = [(plan, draw.sample(range(len(plan)), len(plan))) for plan in LARGE for _ in range(3)]
        small = [(plan, order) for plan in all_plans(4) for order in itertools.permutations(range(4))]
        for plan, order in drawn + small:
            order = tuple(order)
            wanted = []
            for item, row in enumerate(plan):
                wanted.append(sum(order.index(seen) < order.index(item) for seen in row))
            self.assertEqual(run_of(plan, order), tuple(wanted))

    def test_fact_the_run_of_the_standing_of_a_run_is_this_run(self):
        for plan in SMALL:
            for run in plainly.all_runs(plan):
                self.assertEqual(run_of(plan, standing(plan, run)), run)
        draw = random.Random(55)
        for plan in LARGE:
            for _ in range(5):
                run = plainly.drawn_run(draw, plan)
                self.assertEqual(run_of(plan, standing(plan, run)), run)

    def test_an_order_need_not_be_the_standing_of_its_run(self):
        self.assertEqual(run_of(((), ()), (0, 1)), (0, 0))
        self.assertEqual(standing(((), ()), (0, 0)), (1, 0))


if __name__ == "__main__":
    unittest.main()
