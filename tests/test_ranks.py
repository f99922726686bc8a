"""Ranks [3.2] and the longest chain [3.3]: the order in which chains stand."""

import itertools
import random
import unittest

from putbetween.chains import by_length, chains, is_chain
from putbetween.plans import all_plans
from putbetween.ranks import ahead, all_chains, chain_at, longest, rank
from tests import plainly

THREE = ((), (0,), (0, 1))
LINE = tuple(tuple(range(item)) for item in range(40))
APART = ((),) * 40

SMALL = [plan for many in range(5) for plan in all_plans(many)] + plainly.drawn_plans(41, 40, 10)
LARGE = plainly.drawn_plans(42, 30, 40) + [LINE, APART]


def drawn_chain(draw, plan):
    chain = (draw.randrange(len(plan)),)
    while True:
        follow = [item for item, row in enumerate(plan) if chain[-1] in row]
        if not follow or draw.randrange(4) == 0:
            return chain
        chain += (draw.choice(follow),)


class Ahead(unittest.TestCase):
    def test_ordinary(self):
        self.assertIs(ahead(THREE, (0,), (0, 1)), True)
        self.assertIs(ahead(THREE, (0, 1), (0,)), False)
        self.assertIs(ahead(THREE, (2,), (0,)), True)
        self.assertIs(ahead(THREE, (0, 2), (0, 1, 2)), True)
        self.assertIs(ahead(THREE, (0, 1, 2), (0, 2)), False)
        self.assertIs(ahead(LINE, (39,), (0,)), True)
        self.assertIs(ahead(LINE, tuple(range(40)), tuple(range(39))), False)
        self.assertIs(ahead(LINE, tuple(range(39)), tuple(range(40))), True)

    def test_a_chain_and_itself(self):
        for plan in SMALL:
            for chain in plainly.all_chains(plan)[-5:]:
                self.assertIs(ahead(plan, chain, chain), False)

    def test_all_pairs(self):
        for plan in [plan for many in range(5) for plan in all_plans(many)]:
            for one, other in itertools.product(plainly.all_chains(plan), repeat=2):
                self.assertIs(ahead(plan, one, other), one != other and plainly.is_ahead(one, other))


class Ranks(unittest.TestCase):
    def test_three(self):
        wanted = [(2,), (1,), (1, 2), (0,), (0, 2), (0, 1), (0, 1, 2)]
        self.assertEqual(all_chains(THREE), wanted)
        self.assertEqual([rank(THREE, chain) for chain in wanted], list(range(7)))
        self.assertEqual([chain_at(THREE, number) for number in range(7)], wanted)

    def test_without_items_and_with_one(self):
        self.assertEqual(all_chains(()), [])
        self.assertEqual(all_chains(((),)), [(0,)])
        self.assertEqual(rank(((),), (0,)), 0)
        self.assertEqual(chain_at(((),), 0), (0,))

    def test_all_chains_sorted(self):
        for plan in SMALL:
            wanted = plainly.in_order(plainly.all_chains(plan))
            self.assertEqual(all_chains(plan), wanted)
            for number, chain in enumerate(wanted):
                self.assertEqual(rank(plan, chain), number)
                self.assertEqual(chain_at(plan, number), chain)
                self.assertIs(type(chain_at(plan, number)), tuple)

    def test_first_and_last_of_2_to_the_power_of_40_less_1(self):
        last = 2 ** 40 - 2
        self.assertEqual(chain_at(LINE, 0), (39,))
        self.assertEqual(chain_at(LINE, last), tuple(range(40)))
        self.assertEqual(rank(LINE, (39,)), 0)
        self.assertEqual(rank(LINE, tuple(range(40))), last)
        self.assertEqual(rank(LINE, (0,)), 2 ** 39 - 1)
        self.assertEqual(chain_at(LINE, 2 ** 39 - 1), (0,))
        self.assertEqual(chain_at(LINE, 2 ** 39 - 2), tuple(range(1, 40)))

    def test_40_items_apart(self):
        self.assertEqual(all_chains(APART), [(item,) for item in reversed(range(40))])
        self.assertEqual(chain_at(APART, 39), (0,))
        self.assertEqual(rank(APART, (7,)), 32)

    def test_large_plans(self):
        draw = random.Random(43)
        for plan in LARGE:
            many = chains(plan)
            for number in [0, many - 1] + [draw.randrange(many) for _ in range(20)] if many else []:
                chain = chain_at(plan, number)
                self.assertIs(is_chain(plan, chain), True)
                self.assertEqual(rank(plan, chain), number)
                if number:
                    self.assertTrue(plainly.is_ahead(chain_at(plan, number - 1), chain))
            if plan:
                found = {drawn_chain(draw, plan) for _ in range(20)}
                ranks = [rank(plan, chain) for chain in plainly.in_order(found)]
                self.assertEqual(ranks, sorted(set(ranks)))
                self.assertEqual([chain_at(plan, number) for number in ranks], plainly.in_order(found))

    def test_just_5000_chains(self):
        plan = plainly.with_chains(5000)
        self.assertEqual(chains(plan), 5000)
        found = all_chains(plan)
        self.assertEqual(len(found), 5000)
        self.assertEqual(len(set(found)), 5000)
        self.assertEqual(found, plainly.in_order(found))

    def test_new_each_time(self):
        all_chains(THREE).clear()
        self.assertEqual(len(all_chains(THREE)), 7)
        self.assertIsNot(all_chains(THREE), all_chains(THREE))


class Longest(unittest.TestCase):
    def test_ordinary(self):
        self.assertEqual(longest(()), ())
        self.assertEqual(longest(((),)), (0,))
        self.assertEqual(longest(THREE), (0, 1, 2))
        self.assertEqual(longest(((), (), ())), (2,))
        self.assertEqual(longest(((), (), (0,), (0, 1), (0, 2))), (0, 2, 4))
        self.assertEqual(longest(LINE), tuple(range(40)))
        self.assertEqual(longest(APART), (39,))

    def test_the_first_of_the_chains_with_the_most_items(self):
        for plan in SMALL:
            listed = plainly.in_order(plainly.all_chains(plan))
            most = max([len(chain) for chain in listed], default=0)
            wanted = [chain for chain in listed if len(chain) == most]
            self.assertEqual(longest(plan), wanted[0] if wanted else (), plan)

    def test_large_plans(self):
        for plan in LARGE:
            found = longest(plan)
            self.assertIs(type(found), tuple)
            self.assertEqual(len(found), len(by_length(plan)))
            self.assertIs(is_chain(plan, found) if plan else found == (), True)


if __name__ == "__main__":
    unittest.main()
