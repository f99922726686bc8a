"""Chains [3.1] and what of [3.3] is built: which they are, and how many."""

import itertools
import random
import unittest

from putbetween.chains import beginning, between, by_length, chains, ending, is_chain, through, weighed
from putbetween.plans import all_plans, behind, beside, repeated, turned
from tests import plainly, wrong

THREE = ((), (0,), (0, 1))
LINE = tuple(tuple(range(item)) for item in range(40))
APART = ((),) * 40

# Few enough items to list all chains.
SMALL = [plan for many in range(5) for plan in all_plans(many)] + plainly.drawn_plans(21, 40, 10)
LARGE = plainly.drawn_plans(22, 15, 40) + [LINE, APART]


class IsChain(unittest.TestCase):
    def test_ordinary(self):
        self.assertIs(is_chain(THREE, (0,)), True)
        self.assertIs(is_chain(THREE, (0, 2)), True)
        self.assertIs(is_chain(THREE, (0, 1, 2)), True)
        self.assertIs(is_chain(THREE, ()), False)
        self.assertIs(is_chain(THREE, (2, 0)), False)
        self.assertIs(is_chain(THREE, (0, 0)), False)
        self.assertIs(is_chain(THREE, (3,)), False)
        self.assertIs(is_chain(THREE, (-1,)), False)
        self.assertIs(is_chain(((), ()), (0, 1)), False)
        self.assertIs(is_chain((), ()), False)
        self.assertIs(is_chain((), (0,)), False)
        self.assertIs(is_chain(LINE, tuple(range(40))), True)
        self.assertIs(is_chain(APART, (38, 39)), False)

    def test_each_tuple_of_items(self):
        for plan in all_plans(4):
            for many in range(5):
                for thing in itertools.product(range(4), repeat=many):
                    self.assertIs(is_chain(plan, thing), plainly.is_chain(plan, thing), (plan, thing))

    def test_any_thing_in_any_place(self):
        for plan in [(), ((),), THREE, ((), (), (0,))]:
            for good in [(0,), (0, 1), (0, 2), (0, 1, 2)]:
                for thing in wrong.with_things(good):
                    before = repr(thing)
                    self.assertIs(is_chain(plan, thing), plainly.is_chain(plan, thing), before[:200])
                    self.assertEqual(repr(thing), before)


class Numbers(unittest.TestCase):
    def test_without_items_and_with_one(self):
        self.assertEqual(chains(()), 0)
        self.assertEqual(ending(()), ())
        self.assertEqual(beginning(()), ())
        self.assertEqual(by_length(()), ())
        self.assertEqual(weighed((), 7), 0)
        self.assertEqual(chains(((),)), 1)
        self.assertEqual(ending(((),)), (1,))
        self.assertEqual(beginning(((),)), (1,))
        self.assertEqual(by_length(((),)), (1,))
        self.assertEqual(weighed(((),), 0), 1)

    def test_three(self):
        self.assertEqual(chains(THREE), 7)
        self.assertEqual(ending(THREE), (1, 2, 4))
        self.assertEqual(beginning(THREE), (4, 2, 1))
        self.assertEqual(by_length(THREE), (3, 3, 1))
        self.assertEqual(weighed(THREE, 0), 3)
        self.assertEqual(weighed(THREE, 2), 13)

    def test_all_chains_counted(self):
        for plan in SMALL:
            listed = plainly.all_chains(plan)
            items = range(len(plan))
            self.assertEqual(chains(plan), len(listed))
            self.assertEqual(ending(plan), tuple(sum(c[-1] == item for c in listed) for item in items))
            self.assertEqual(beginning(plan), tuple(sum(c[0] == item for c in listed) for item in items))
            longest = max([len(c) for c in listed], default=0)
            lengths = tuple(sum(len(c) == many for c in listed) for many in range(1, longest + 1))
            self.assertEqual(by_length(plan), lengths)
            for weight in [0, 1, 2, 3, 1000]:
                self.assertEqual(weighed(plan, weight), sum(weight ** (len(c) - 1) for c in listed))

    def test_through_counted(self):
        for plan in SMALL:
            listed = plainly.all_chains(plan)
            for item in range(len(plan)):
                self.assertEqual(through(plan, item), sum(item in c for c in listed))

    def test_between_counted(self):
        for plan in SMALL:
            listed = plainly.all_chains(plan)
            for first, last in itertools.product(range(len(plan)), repeat=2):
                wanted = sum(c[0] == first and c[-1] == last for c in listed)
                self.assertEqual(between(plan, first, last), wanted)

    def test_two_to_the_power_of_40_less_1(self):
        self.assertEqual(chains(LINE), 2 ** 40 - 1)
        self.assertEqual(ending(LINE), tuple(2 ** item for item in range(40)))
        self.assertEqual(beginning(LINE), tuple(2 ** (39 - item) for item in range(40)))
        self.assertEqual(sum(by_length(LINE)), 2 ** 40 - 1)
        self.assertEqual(by_length(LINE)[:3], (40, 780, 9880))
        self.assertEqual(len(by_length(LINE)), 40)
        self.assertEqual(weighed(LINE, 1000), (1001 ** 40 - 1) // 1000)
        self.assertEqual(weighed(LINE, 0), 40)
        for item in range(40):
            self.assertEqual(through(LINE, item), 2 ** 39)
        self.assertEqual(between(LINE, 0, 39), 2 ** 38)
        self.assertEqual(between(LINE, 39, 0), 0)
        self.assertEqual(between(LINE, 39, 39), 1)

    def test_40_items_apart(self):
        self.assertEqual(chains(APART), 40)
        self.assertEqual(ending(APART), (1,) * 40)
        self.assertEqual(by_length(APART), (40,))
        self.assertEqual(weighed(APART, 1000), 40)
        self.assertEqual(between(APART, 0, 39), 0)
        self.assertEqual(through(APART, 39), 1)

    def test_kinds(self):
        for plan in [(), THREE]:
            for function in [ending, beginning, by_length]:
                self.assertIs(type(function(plan)), tuple)
            self.assertIs(type(chains(plan)), int)
            self.assertIs(type(weighed(plan, 0)), int)

    def test_sums_of_large_plans(self):
        for plan in LARGE:
            self.assertEqual(sum(ending(plan)), chains(plan))
            self.assertEqual(sum(beginning(plan)), chains(plan))
            self.assertEqual(sum(by_length(plan)), chains(plan))
            self.assertEqual(weighed(plan, 0), len(plan))
            self.assertEqual(weighed(plan, 1), chains(plan))
            for weight in [2, 1000]:
                powers = [many * weight ** at for at, many in enumerate(by_length(plan))]
                self.assertEqual(weighed(plan, weight), sum(powers))
            items = range(len(plan))
            for item in items:
                self.assertEqual(sum(between(plan, item, last) for last in items), beginning(plan)[item])
                self.assertEqual(sum(between(plan, first, item) for first in items), ending(plan)[item])
                self.assertEqual(through(plan, item), ending(plan)[item] * beginning(plan)[item])


class Facts(unittest.TestCase):
    """The FACTS of [3.1]."""

    def test_behind_and_beside(self):
        draw = random.Random(23)
        for _ in range(100):
            one = plainly.drawn_plan(draw, draw.randrange(21))
            other = plainly.near_plan(draw, draw.randrange(21))
            a, b = chains(one), chains(other)
            self.assertEqual(chains(behind(one, other)), (a + 1) * (b + 1) - 1)
            self.assertEqual(chains(beside(one, other)), a + b)

    def test_turned(self):
        for plan in SMALL + LARGE:
            self.assertEqual(chains(turned(plan)), chains(plan))

    def test_rounds(self):
        for hands in range(1, 41):
            for times in range(40 // hands + 1):
                plan = plainly.rounds(hands, times)
                self.assertEqual(chains(plan), (hands + 1) ** times - 1)
                self.assertEqual(chains(repeated(APART[:hands], times)), (hands + 1) ** times - 1)

    def test_ending_is_1_more_than_the_sum_of_the_seen(self):
        for plan in SMALL + LARGE:
            ends = ending(plan)
            for item, row in enumerate(plan):
                self.assertEqual(ends[item], 1 + sum(ends[seen] for seen in row))


if __name__ == "__main__":
    unittest.main()
