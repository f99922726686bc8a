"""Likeness [1.3]: plans that are one but for the numbers of their items."""

import itertools
import random
import unittest

from putbetween.likeness import is_sameness, sameness
from putbetween.plans import all_plans, beside, repeated, turned
from tests import plainly, wrong

THREE = ((), (0,), (0, 1))
FORK = ((), (0,), (0,))
APART = ((),) * 40


class Sameness(unittest.TestCase):
    def test_ordinary(self):
        self.assertEqual(sameness((), ()), ())
        self.assertEqual(sameness(((),), ((),)), (0,))
        self.assertEqual(sameness(THREE, THREE), (0, 1, 2))
        self.assertEqual(sameness(((), (0,), ()), ((), (), (0,))), (0, 2, 1))
        self.assertEqual(sameness(((), (0,), ()), ((), (), (1,))), (1, 2, 0))
        self.assertIsNone(sameness(FORK, turned(FORK)))
        self.assertIsNone(sameness(THREE, FORK))

    def test_unlike_numbers_of_items(self):
        self.assertIsNone(sameness((), ((),)))
        self.assertIsNone(sameness(THREE, THREE[:2]))
        self.assertIsNone(sameness(APART[:9], ()))

    def test_it_is_the_least_of_all(self):
        for many in range(5):
            for one, other in itertools.product(all_plans(many), repeat=2):
                found = plainly.all_samenesses(one, other)
                self.assertEqual(sameness(one, other), min(found) if found else None, (one, other))

    def test_it_is_the_least_of_all_for_shuffled_plans(self):
        draw = random.Random(11)
        for _ in range(25):
            one = plainly.near_plan(draw, 6)
            other = plainly.shuffled(draw, one)
            self.assertEqual(sameness(one, other), min(plainly.all_samenesses(one, other)))

    def test_nine_items(self):
        draw = random.Random(12)
        for _ in range(50):
            one = plainly.near_plan(draw, 9)
            other = plainly.shuffled(draw, one)
            found = sameness(one, other)
            self.assertIs(is_sameness(one, other, found), True)
            self.assertLessEqual(sameness(one, one), tuple(range(9)))
        self.assertEqual(sameness(APART[:9], APART[:9]), tuple(range(9)))

    def test_nine_items_with_like_counts(self):
        # Each item of both has seen two or none, and has been seen by two or none.
        ring = ((), (), (), (), (0, 1), (1, 2), (2, 3), (0, 3), ())
        two_rings = ((), (), (), (), (0, 1), (0, 1), (2, 3), (2, 3), ())
        self.assertIsNone(sameness(ring, two_rings))
        self.assertIsNone(sameness(two_rings, ring))


class IsSameness(unittest.TestCase):
    def test_all_and_not_only_the_least(self):
        for one, other in itertools.product(all_plans(3), repeat=2):
            found = plainly.all_samenesses(one, other)
            for many in range(5):
                for thing in itertools.product(range(3), repeat=many):
                    self.assertIs(is_sameness(one, other, thing), thing in found, (one, other, thing))
            for twins in found:
                self.assertIs(is_sameness(one, other, list(twins)), False)

    def test_drawn_plans(self):
        draw = random.Random(13)
        for _ in range(20):
            one = plainly.drawn_plan(draw, 5)
            other = plainly.shuffled(draw, one)
            found = plainly.all_samenesses(one, other)
            for thing in itertools.permutations(range(5)):
                self.assertIs(is_sameness(one, other, thing), thing in found)

    def test_more_than_nine_items(self):
        self.assertIs(is_sameness(APART, APART, tuple(range(40))), True)
        self.assertIs(is_sameness(APART, APART, tuple(reversed(range(40)))), True)
        line = repeated(((),), 40)
        self.assertIs(is_sameness(line, line, tuple(range(40))), True)
        self.assertIs(is_sameness(line, line, tuple(reversed(range(40)))), False)
        one = beside(line[:10], APART[:10])
        other = beside(APART[:10], line[:10])
        self.assertIs(is_sameness(one, other, tuple(range(10, 20)) + tuple(range(10))), True)
        self.assertIs(is_sameness(one, other, tuple(range(20))), False)

    def test_unlike_numbers_of_items(self):
        self.assertIs(is_sameness((), (), ()), True)
        self.assertIs(is_sameness((), ((),), ()), False)
        self.assertIs(is_sameness(((),), (), (0,)), False)
        self.assertIs(is_sameness(((),), ((), ()), (0,)), False)
        self.assertIs(is_sameness(((), ()), ((),), (0, 0)), False)

    def test_any_thing_in_any_place(self):
        for one, other in [((), ()), (THREE, THREE), (((), (), ()), ((), (), ()))]:
            found = plainly.all_samenesses(one, other)
            for thing in wrong.with_things(tuple(range(len(one)))):
                before = repr(thing)
                wanted = type(thing) is tuple and all(type(k) is int for k in thing) and thing in found
                self.assertIs(is_sameness(one, other, thing), wanted, before[:200])
                self.assertEqual(repr(thing), before)


if __name__ == "__main__":
    unittest.main()
