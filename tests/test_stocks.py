"""Stocks [9]: how many names the items of each hand need, and how few hands are enough."""

import itertools
import random
import unittest

from putbetween.days import day_hands, day_plan
from putbetween.plans import all_plans
from putbetween.playing import played, rank_namer, rank_table
from putbetween.stocks import fewest_hands, is_fewest, stocks
from tests import plainly, strange
from tests.wrong import things, with_things

THREE = ((), (0,), (0, 1))
LINE = tuple(tuple(range(item)) for item in range(40))
APART = ((),) * 40

SMALL = [plan for many in range(5) for plan in all_plans(many)] + plainly.drawn_plans(151, 20, 6)
LARGE = plainly.drawn_plans(152, 40, 40) + [LINE, APART]


def sums(plan, hands):
    """For each hand the number of the chains that end with its items."""
    if not hands:
        return ()
    ends = [chain[-1] for chain in plainly.all_chains(plan)]
    return tuple(sum(hands[item] == hand for item in ends) for hand in range(max(hands) + 1))


def is_pair(plan, thing):
    """Whether a thing is such a pair, by the plain words of the document."""
    if type(thing) is not tuple or len(thing) != 2 or any(type(part) is not tuple for part in thing):
        return False
    hands, apart = thing
    if len(hands) != len(plan) or not all(type(part) is int for part in hands + apart):
        return False
    if set(hands) != set(range(len(set(hands)))) or len(apart) != len(set(hands)):
        return False
    if list(apart) != sorted(set(apart)) or not all(0 <= item < len(plan) for item in apart):
        return False
    if any(one in plan[other] or other in plan[one] for one, other in itertools.combinations(apart, 2)):
        return False
    return all(
        hands[one] != hands[other] or one in plan[other] for one, other in itertools.combinations(range(len(plan)), 2))


def all_hands(many):
    """All ways to give hands to so many items, each new hand being the next one."""
    ways = [()]
    for _ in range(many):
        ways = [way + (hand,) for way in ways for hand in range(max(way, default=-1) + 2)]
    return ways


class Stocks(unittest.TestCase):
    def test_ordinary(self):
        self.assertEqual(stocks((), ()), ())
        self.assertEqual(stocks(((),), (0,)), (1,))
        self.assertEqual(stocks(((),), (15,)), (0,) * 15 + (1,))
        self.assertEqual(stocks(THREE, (0, 0, 0)), (7,))
        self.assertEqual(stocks(THREE, (0, 1, 0)), (5, 2))
        self.assertEqual(stocks(THREE, (2, 1, 1)), (0, 6, 1))
        self.assertEqual(stocks(THREE, (3, 0, 3)), (2, 0, 0, 5))
        self.assertEqual(stocks(LINE, (0,) * 39 + (1,)), (2 ** 39 - 1, 2 ** 39))

    def test_sums_of_the_numbers_of_chains(self):
        draw = random.Random(153)
        for plan in SMALL:
            for most in (1, 3, 16):
                hands = tuple(draw.randrange(most) for _ in plan)
                found = stocks(plan, hands)
                self.assertIs(type(found), tuple)
                self.assertEqual(found, sums(plan, hands))

    def test_hands_of_days(self):
        draw = random.Random(154)
        for _ in range(40):
            day = plainly.drawn_day(draw, 12, draw.randrange(9), 4)
            plan, hands = day_plan(day), day_hands(day)
            self.assertEqual(stocks(plan, hands), sums(plan, hands))

    def test_fifth_fact_the_plain_names_reach_it(self):
        draw = random.Random(155)
        for plan in SMALL:
            hands = tuple(draw.randrange(3) for _ in plan)
            names = {}
            for run in plainly.all_runs(plan):
                for item, name in enumerate(played(plan, run, rank_namer, rank_table)[1]):
                    names.setdefault(hands[item], set()).add(name)
            many = max(hands, default=-1) + 1
            self.assertEqual(stocks(plan, hands), tuple(len(names.get(hand, ())) for hand in range(many)))

    def test_fifth_fact_no_right_naming_does_with_fewer(self):
        draw = random.Random(156)
        for plan in SMALL:
            hands = tuple(draw.randrange(3) for _ in plan)
            namer = strange.chain_namer(strange.renumbered(draw, plan))
            names = {}
            for run in plainly.all_runs(plan):
                for item, name in enumerate(played(plan, run, namer, strange.chain_table)[1]):
                    names.setdefault(hands[item], set()).add(name)
            for hand, least in enumerate(stocks(plan, hands)):
                self.assertGreaterEqual(len(names.get(hand, ())), least)

    def test_40_items(self):
        self.assertEqual(stocks(APART, tuple(item % 16 for item in range(40))), (3,) * 8 + (2,) * 8)
        self.assertEqual(sum(stocks(LINE, tuple(item % 7 for item in range(40)))), 2 ** 40 - 1)


class Fewest(unittest.TestCase):
    def assert_fewest(self, plan):
        found = fewest_hands(plan)
        self.assertTrue(is_pair(plan, found), (plan, found))
        self.assertIs(is_fewest(plan, found), True)
        return len(found[1])

    def test_ordinary(self):
        self.assertEqual(fewest_hands(()), ((), ()))
        self.assertEqual(fewest_hands(((),)), ((0,), (0,)))
        self.assertEqual(self.assert_fewest(THREE), 1)
        self.assertEqual(self.assert_fewest(((), (), (0, 1))), 2)
        self.assertEqual(self.assert_fewest(LINE), 1)
        self.assertEqual(self.assert_fewest(APART), 40)
        self.assertEqual(self.assert_fewest(plainly.rounds(8, 5)), 8)

    def test_against_all_ways_to_give_hands(self):
        for plan in [plan for many in range(6) for plan in all_plans(many)] + plainly.drawn_plans(157, 10, 7):
            many = self.assert_fewest(plan)
            fewest = None
            for hands in all_hands(len(plan)):
                if all(hands[one] != hands[other] or one in plan[other]
                       for one, other in itertools.combinations(range(len(plan)), 2)):
                    fewest = len(set(hands)) if fewest is None else min(fewest, len(set(hands)))
            self.assertEqual(many, fewest)

    def test_sixth_fact(self):
        for plan in SMALL + LARGE + plainly.drawn_plans(158, 200, 40):
            self.assert_fewest(plan)

    def test_elders_must_be_exchanged(self):
        # Item 2 can follow 0 or 1, item 3 can follow 0 alone; and so on in a row.
        self.assertEqual(self.assert_fewest(((), (), (0, 1), (0,))), 2)
        self.assertEqual(self.assert_fewest(((), (), (), (0, 1), (1, 2), (0, 2))), 3)
        row = ((),) * 20 + tuple((item, item + 1) for item in range(19)) + ((0,),)
        self.assertEqual(self.assert_fewest(row), 20)
        row = ((),) * 20 + tuple((item - 1, item) for item in range(1, 20)) + ((19,),)
        self.assertEqual(self.assert_fewest(row), 20)

    def test_changed_in_one_place(self):
        for plan in [(), ((),), THREE, ((), (), (0, 1)), ((), (0,), (), (0, 1, 2)), ((), (), (0, 1), (0,))]:
            good = fewest_hands(plan)
            hands, apart = good
            many = len(apart)
            for changed in [
                list(good), (list(hands), apart), (hands, list(apart)), (apart,), (hands,), (hands, apart, ()), None,
                (hands + (0,), apart), (hands, apart + (0,)), (hands, apart + (len(plan),)),
                (tuple(hand + 1 for hand in hands), apart + (0,)), (hands, (0,) * (many + 1)), {hands: apart},
            ] + ([
                (hands[1:], apart), (hands, apart[1:]), (hands, apart[:-1]), (tuple(hand + 1 for hand in hands), apart),
                (tuple(range(1, len(plan) + 1)), apart), (hands, tuple(item + len(plan) for item in apart)),
                (hands, tuple(item - len(plan) for item in apart)), ((False,) + hands[1:], apart),
                ((many,) + hands[1:], apart), ((-1,) + hands[1:], apart), ((None,) + hands[1:], apart),
                (hands, apart[:-1] + (None,)), (hands, apart[:-1] + (True,)), (hands, (False,) + apart[1:]),
            ] if plan else []):
                self.assertFalse(is_pair(plan, changed))
                self.assertIs(is_fewest(plan, changed), False, (plan, changed))

    def test_all_pairs_of_small_plans(self):
        for plan in [plan for many in range(4) for plan in all_plans(many)]:
            told = set()
            items = range(-1, len(plan) + 1)
            for hands in itertools.product(items, repeat=len(plan)):
                for many in range(len(plan) + 1):
                    for apart in itertools.product(items, repeat=many):
                        told.add(is_fewest(plan, (hands, apart)))
                        self.assertIs(is_fewest(plan, (hands, apart)), is_pair(plan, (hands, apart)))
            self.assertIn(True, told)

    def test_things_of_every_kind(self):
        for plan in [(), ((),), THREE, ((), (), (0,)), APART]:
            for thing in things() + with_things(fewest_hands(plan)):
                before = repr(thing)
                self.assertIs(is_fewest(plan, thing), is_pair(plan, thing), (plan, thing))
                self.assertEqual(repr(thing), before)


if __name__ == "__main__":
    unittest.main()
