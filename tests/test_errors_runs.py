"""Which error each call about chains in order, runs and names raises [3.2, 4], and which one comes first."""

import unittest

from putbetween.chains import chains
from putbetween.errors import NoChain, NoItem, NoNumber, NoOrder, NoRun, TooMany
from putbetween.naming import names, run_with, standing, view
from putbetween.ranks import ahead, all_chains, chain_at, rank
from putbetween.runs import many_runs, number_of, run_at, run_of
from tests import plainly
from tests.wrong import assert_error, things, with_things

THREE = ((), (0,), (0, 1))
FORK = ((), (0,), (0,))
LINE = tuple(tuple(range(item)) for item in range(40))
APART = ((),) * 40
PLANS = [(), ((),), THREE, FORK, APART]


def is_number(least, most, thing):
    return type(thing) is int and least <= thing <= most


def is_row(plan, thing):
    return type(thing) in (list, tuple) and all(plainly.is_chain(plan, chain) for chain in thing)


class Chains(unittest.TestCase):
    def test_any_thing_in_any_place(self):
        for plan in PLANS:
            for good in [(0,), (0, 1), (0, 1, 2)]:
                for thing in with_things(good):
                    if plainly.is_chain(plan, thing):
                        self.assertIs(type(rank(plan, thing)), int)
                        self.assertIs(ahead(plan, thing, thing), False)
                    else:
                        assert_error(self, NoChain(), rank, plan, thing)
                        assert_error(self, NoChain(), ahead, plan, thing, thing)

    def test_for_the_one_and_for_the_other_one(self):
        for thing in things() + [(), (2, 0), (3,), [0], (0, 0)]:
            if not plainly.is_chain(THREE, thing):
                assert_error(self, NoChain(), ahead, THREE, thing, (0,))
                assert_error(self, NoChain(), ahead, THREE, (0,), thing)
        assert_error(self, NoChain(), rank, FORK, (1, 2))
        assert_error(self, NoChain(), rank, LINE, tuple(range(41)))

    def test_rows_of_run_with(self):
        for plan in PLANS:
            for good in [[], [(0,)], ((0,), (0, 1)), [(2,), (0, 1)]]:
                for row in with_things(good):
                    if is_row(plan, row):
                        run = run_with(plan, row)
                        self.assertTrue(run is None or plainly.is_run(plan, run))
                    else:
                        assert_error(self, NoChain(), run_with, plan, row)

    def test_a_thing_that_is_no_chain_comes_ahead_of_those_that_clash(self):
        self.assertIsNone(run_with(THREE, [(2,), (1, 2)]))
        assert_error(self, NoChain(), run_with, THREE, [(2,), (1, 2), (3,)])
        assert_error(self, NoChain(), run_with, THREE, [(2,), (1, 2), ()])
        assert_error(self, NoChain(), run_with, THREE, {(2,): 0})
        assert_error(self, NoChain(), run_with, (), [()])
        assert_error(self, NoChain(), run_with, THREE, (0, 1))
        assert_error(self, NoChain(), run_with, THREE, [[0, 1]])


class Numbers(unittest.TestCase):
    def test_ranks(self):
        for plan in PLANS + [LINE]:
            many = chains(plan)
            for thing in things() + [many, many + 1, -1]:
                if not is_number(0, many - 1, thing):
                    assert_error(self, NoNumber(), chain_at, plan, thing)
                else:
                    self.assertEqual(rank(plan, chain_at(plan, thing)), thing)
        assert_error(self, NoNumber(), chain_at, (), 0)
        assert_error(self, NoNumber(), chain_at, LINE, 2 ** 40 - 1)

    def test_runs(self):
        for plan in PLANS + [LINE]:
            many = many_runs(plan)
            for thing in things() + [many, many + 1, -1]:
                if not is_number(0, many - 1, thing):
                    assert_error(self, NoNumber(), run_at, plan, thing)
                else:
                    self.assertEqual(number_of(plan, run_at(plan, thing)), thing)
        assert_error(self, NoNumber(), run_at, (), 1)


class Runs(unittest.TestCase):
    def test_any_thing_in_any_place(self):
        for plan in PLANS:
            for good in [(), (0,), (0, 0, 1)]:
                for thing in with_things(good):
                    if plainly.is_run(plan, thing):
                        self.assertEqual(names(plan, thing), plainly.names(plan, thing))
                    else:
                        for function in (number_of, names, standing):
                            assert_error(self, NoRun(), function, plan, thing)
                        assert_error(self, NoRun(), view, plan, thing, 0)
                        assert_error(self, NoRun(), view, plan, thing, None)

    def test_gaps(self):
        for run in [(0, 2, 0), (0, 0, 3), (1, 0, 0), (0, -1, 0), (0, 0), (0, 0, 0, 0), [0, 0, 0], (0, False, 0)]:
            for function in (number_of, names, standing):
                assert_error(self, NoRun(), function, THREE, run)
        assert_error(self, NoRun(), names, LINE, tuple(range(39)) + (40,))
        assert_error(self, NoRun(), names, LINE, tuple(range(41)))

    def test_40_gaps(self):
        for thing in things():
            run = (0,) * 39 + (thing,)
            if plainly.is_run(LINE, run):
                self.assertEqual(number_of(LINE, run), thing)
            else:
                assert_error(self, NoRun(), number_of, LINE, run)

    def test_items_of_view(self):
        for thing in things() + [-1, 3]:
            for plan in PLANS:
                if not is_number(0, len(plan) - 1, thing):
                    assert_error(self, NoItem(), view, plan, (0,) * len(plan), thing)
                else:
                    self.assertEqual(sorted(view(plan, (0,) * len(plan), thing)), list(plan[thing]))


class Orders(unittest.TestCase):
    def test_any_thing_in_any_place(self):
        for plan in PLANS:
            for good in [(), (0,), (1, 2, 0)]:
                for thing in with_things(good):
                    if plainly.is_order(len(plan), thing):
                        self.assertTrue(plainly.is_run(plan, run_of(plan, thing)))
                    else:
                        assert_error(self, NoOrder(), run_of, plan, thing)

    def test_edges(self):
        for order in [(0, 1), (0, 1, 2, 3), (0, 1, 1), (1, 2, 3), (-1, 0, 1), [0, 1, 2], (0, True, 2)]:
            assert_error(self, NoOrder(), run_of, THREE, order)


class Sizes(unittest.TestCase):
    def test_5000_chains_and_5001(self):
        self.assertEqual(len(all_chains(plainly.with_chains(5000))), 5000)
        assert_error(self, TooMany(5000), all_chains, plainly.with_chains(5001))
        assert_error(self, TooMany(5000), all_chains, LINE)


if __name__ == "__main__":
    unittest.main()
