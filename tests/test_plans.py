"""Plans [1.1], [1.2], [1.4]: what they are, and what is made of them."""

import itertools
import random
import unittest

from putbetween.plans import all_plans, behind, beside, is_plan, part, plan_of, repeated, turned, with_sight
from tests import plainly, wrong

THREE = ((), (0,), (0, 1))
LINE = tuple(tuple(range(item)) for item in range(40))
APART = ((),) * 40

SMALL = [plan for many in range(5) for plan in all_plans(many)]
DRAWN = plainly.drawn_plans(1, 60, 20) + plainly.drawn_plans(2, 10, 40) + [LINE, APART]


def sees(plan):
    """The set of the pairs of which the first one has seen the second one."""
    return {(item, seen) for item, row in enumerate(plan) for seen in row}


class IsPlan(unittest.TestCase):
    def test_plans(self):
        for plan in [(), ((),), ((), ()), ((), (0,)), THREE, ((), (), (0, 1)), LINE, APART]:
            self.assertIs(is_plan(plan), True, plan)
        for plan in DRAWN:
            self.assertIs(is_plan(plan), True, plan)

    def test_no_more_than_40_items(self):
        self.assertIs(is_plan(LINE + (tuple(range(40)),)), False)
        self.assertIs(is_plan(APART + ((),)), False)

    def test_each_has_seen_what_those_have_that_it_has_seen(self):
        self.assertIs(is_plan(((), (0,), (1,))), False)
        self.assertIs(is_plan(((), (0,), (), (1, 2))), False)
        self.assertIs(is_plan(((), (0,), (), (0, 1, 2))), True)

    def test_rows_ascend(self):
        self.assertIs(is_plan(((), (), (1, 0))), False)
        self.assertIs(is_plan(((), (0, 0))), False)

    def test_only_lesser_items_are_seen(self):
        self.assertIs(is_plan(((0,),)), False)
        self.assertIs(is_plan(((), (1,))), False)
        self.assertIs(is_plan(((), (-1,))), False)
        self.assertIs(is_plan(((1,), ())), False)

    def test_lists_and_flags_are_none(self):
        self.assertIs(is_plan([]), False)
        self.assertIs(is_plan([(), (0,)]), False)
        self.assertIs(is_plan(((), [0])), False)
        self.assertIs(is_plan(((), (False,))), False)
        self.assertIs(is_plan(((), (), (0, True))), False)

    def test_any_thing_in_any_place(self):
        for plan in [(), ((),), THREE, ((), (), (0, 1), (0,))]:
            for thing in wrong.with_things(plan):
                before = repr(thing)
                self.assertIs(is_plan(thing), plainly.is_plan(thing), before[:200])
                self.assertEqual(repr(thing), before)

    def test_all_small_tuples_of_tuples(self):
        rows = [(), (0,), (1,), (2,), (0, 1), (1, 0), (0, 2), (0, 1, 2)]
        for many in range(5):
            for thing in itertools.product(rows, repeat=many):
                self.assertIs(is_plan(thing), plainly.is_plan(thing), thing)


class PlanOf(unittest.TestCase):
    def test_ordinary(self):
        self.assertEqual(plan_of([]), ())
        self.assertEqual(plan_of(()), ())
        self.assertEqual(plan_of([[]]), ((),))
        self.assertEqual(plan_of(([], (), [1, 0, 1])), ((), (), (0, 1)))
        self.assertEqual(plan_of([[], [0], [], [2], [1, 3]]), ((), (0,), (), (2,), (0, 1, 2, 3)))
        self.assertEqual(plan_of([[]] + [[item] for item in range(39)]), LINE)
        self.assertEqual(plan_of([[], [0] * 9000]), ((), (0,)))

    def test_it_is_the_least_of_all_plans(self):
        plans = all_plans(4)
        pairs = [(item, seen) for item in range(4) for seen in range(item)]
        for many in range(len(pairs) + 1):
            for told in itertools.combinations(pairs, many):
                sights = [[seen for item, seen in told if item == row] for row in range(4)]
                least = plan_of(sights)
                holding = [sees(plan) for plan in plans if set(told) <= sees(plan)]
                self.assertIn(sees(least), holding)
                for other in holding:
                    self.assertLessEqual(sees(least), other)

    def test_drawn_sights(self):
        draw = random.Random(3)
        for _ in range(100):
            many = draw.randrange(41)
            sights = []
            for item in range(many):
                row = [draw.randrange(item) for _ in range(draw.randrange(3)) if item]
                sights.append(tuple(row) if draw.randrange(2) else row)
            told = tuple(sights) if draw.randrange(2) else sights
            before = repr(told)
            self.assertEqual(plan_of(told), plainly.closure(told))
            self.assertEqual(repr(told), before)

    def test_a_plan_is_its_own(self):
        for plan in SMALL + DRAWN:
            self.assertEqual(plan_of(plan), plan)
            self.assertEqual(plan_of([list(row) for row in plan]), plan)

    def test_rows_are_tuples_of_integers(self):
        plan = plan_of([[], [0], (1, 0)])
        self.assertIs(type(plan), tuple)
        for row in plan:
            self.assertIs(type(row), tuple)


class Behind(unittest.TestCase):
    def test_ordinary(self):
        self.assertEqual(behind((), ()), ())
        self.assertEqual(behind(((),), ()), ((),))
        self.assertEqual(behind((), ((),)), ((),))
        self.assertEqual(behind(((), ()), ((), (0,))), ((), (), (0, 1), (0, 1, 2)))

    def test_pair_by_pair(self):
        draw = random.Random(4)
        pairs = list(itertools.product(all_plans(2) + all_plans(3), repeat=2))
        pairs += [(plainly.drawn_plan(draw, 20), plainly.near_plan(draw, 20)) for _ in range(10)]
        for one, other in pairs:
            many = len(one)
            plan = behind(one, other)
            wanted = {(item + many, seen + many) for item, seen in sees(other)}
            wanted |= {(item + many, seen) for item in range(len(other)) for seen in range(many)}
            self.assertEqual(sees(plan), sees(one) | wanted)
            self.assertEqual(len(plan), many + len(other))
            self.assertTrue(plainly.is_plan(plan))

    def test_40_items_and_41(self):
        self.assertEqual(behind(LINE[:39], ((),)), LINE)
        self.assertEqual(behind(LINE, ()), LINE)
        self.assertEqual(behind((), LINE), LINE)


class Beside(unittest.TestCase):
    def test_ordinary(self):
        self.assertEqual(beside((), ()), ())
        self.assertEqual(beside(((), (0,)), ()), ((), (0,)))
        self.assertEqual(beside((), ((), (0,))), ((), (0,)))
        self.assertEqual(beside(((), (0,)), ((), (0,))), ((), (0,), (), (2,)))

    def test_pair_by_pair(self):
        draw = random.Random(5)
        pairs = list(itertools.product(all_plans(2) + all_plans(3), repeat=2))
        pairs += [(plainly.drawn_plan(draw, 20), plainly.near_plan(draw, 20)) for _ in range(10)]
        for one, other in pairs:
            many = len(one)
            plan = beside(one, other)
            wanted = {(item + many, seen + many) for item, seen in sees(other)}
            self.assertEqual(sees(plan), sees(one) | wanted)
            self.assertEqual(len(plan), many + len(other))
            self.assertTrue(plainly.is_plan(plan))

    def test_40_items(self):
        self.assertEqual(beside(APART[:20], APART[:20]), APART)
        self.assertEqual(beside(LINE, ()), LINE)


class Repeated(unittest.TestCase):
    def test_ordinary(self):
        self.assertEqual(repeated(THREE, 0), ())
        self.assertEqual(repeated(THREE, 1), THREE)
        self.assertEqual(repeated(((), ()), 2), ((), (), (0, 1), (0, 1)))
        self.assertEqual(repeated(((),), 40), LINE)
        self.assertEqual(repeated(LINE, 1), LINE)
        self.assertEqual(repeated(LINE, 0), ())
        self.assertEqual(repeated((), 0), ())
        self.assertEqual(repeated((), 40), ())

    def test_rounds(self):
        for hands in range(1, 41):
            for times in range(40 // hands + 1):
                self.assertEqual(repeated(APART[:hands], times), plainly.rounds(hands, times))

    def test_behind_itself(self):
        for plan in plainly.drawn_plans(6, 30, 10):
            wanted = ()
            self.assertEqual(repeated(plan, 0), wanted)
            for times in range(1, 5):
                wanted = behind(wanted, plan)
                self.assertEqual(repeated(plan, times), wanted)


class Turned(unittest.TestCase):
    def test_ordinary(self):
        self.assertEqual(turned(()), ())
        self.assertEqual(turned(((),)), ((),))
        self.assertEqual(turned(THREE), THREE)
        self.assertEqual(turned(((), (), (0, 1))), ((), (0,), (0,)))
        self.assertEqual(turned(((), (0,), ())), ((), (), (1,)))
        self.assertEqual(turned(LINE), LINE)
        self.assertEqual(turned(APART), APART)

    def test_pair_by_pair(self):
        for plan in SMALL + DRAWN:
            last = len(plan) - 1
            other = turned(plan)
            self.assertEqual(sees(other), {(last - seen, last - item) for item, seen in sees(plan)})
            self.assertEqual(len(other), len(plan))
            self.assertTrue(plainly.is_plan(other))
            self.assertEqual(turned(other), plan)


class Part(unittest.TestCase):
    def test_ordinary(self):
        self.assertEqual(part((), ()), ())
        self.assertEqual(part(THREE, ()), ())
        self.assertEqual(part(THREE, (1,)), ((),))
        self.assertEqual(part(THREE, (0, 2)), ((), (0,)))
        self.assertEqual(part(((), (), (0,), (1,)), (1, 2, 3)), ((), (), (0,)))
        self.assertEqual(part(LINE, tuple(range(40))), LINE)
        self.assertEqual(part(LINE, tuple(range(0, 40, 2))), LINE[:20])

    def test_pair_by_pair(self):
        draw = random.Random(7)
        for plan in SMALL + DRAWN:
            for _ in range(5):
                items = tuple(item for item in range(len(plan)) if draw.randrange(2))
                plan_of_these = part(plan, items)
                self.assertEqual(len(plan_of_these), len(items))
                self.assertTrue(plainly.is_plan(plan_of_these))
                wanted = {(i, k) for i, item in enumerate(items) for k, seen in enumerate(items) if seen in plan[item]}
                self.assertEqual(sees(plan_of_these), wanted)


class WithSight(unittest.TestCase):
    def test_ordinary(self):
        self.assertEqual(with_sight(((), ()), 1, 0), ((), (0,)))
        self.assertEqual(with_sight(THREE, 2, 0), THREE)
        self.assertEqual(with_sight(((), (0,), ()), 2, 1), THREE)
        self.assertEqual(with_sight(((), (), (1,)), 1, 0), THREE)
        self.assertEqual(with_sight(((), (0,), (), (2,)), 2, 1), ((), (0,), (0, 1), (0, 1, 2)))

    def test_it_is_the_least_of_all_plans(self):
        plans = all_plans(4)
        for plan in plans:
            for seen, item in itertools.combinations(range(4), 2):
                least = with_sight(plan, item, seen)
                holding = [sees(other) for other in plans if sees(plan) | {(item, seen)} <= sees(other)]
                self.assertIn(sees(least), holding)
                for other in holding:
                    self.assertLessEqual(sees(least), other)

    def test_drawn_plans(self):
        draw = random.Random(8)
        for plan in DRAWN:
            for _ in range(min(5, len(plan) - 1)):
                item = draw.randrange(1, len(plan))
                seen = draw.randrange(item)
                rows = list(plan)
                rows[item] = rows[item] + (seen,)
                self.assertEqual(with_sight(plan, item, seen), plainly.closure(rows))


class AllPlans(unittest.TestCase):
    def test_how_many(self):
        self.assertEqual([len(all_plans(many)) for many in range(6)], [1, 1, 2, 7, 40, 357])

    def test_small_ones(self):
        self.assertEqual(all_plans(0), [()])
        self.assertEqual(all_plans(1), [((),)])
        self.assertEqual(all_plans(2), [((), ()), ((), (0,))])

    def test_ascending_each_once_and_plans(self):
        for many in range(6):
            plans = all_plans(many)
            self.assertIs(type(plans), list)
            self.assertEqual(plans, sorted(set(plans)))
            for plan in plans:
                self.assertEqual(len(plan), many)
                self.assertTrue(plainly.is_plan(plan))

    def test_none_is_missing(self):
        rows = [row for many in range(4) for row in itertools.combinations(range(3), many)]
        wanted = [plan for plan in itertools.product(rows, repeat=4) if plainly.is_plan(plan)]
        self.assertEqual(all_plans(4), sorted(wanted))

    def test_the_list_is_new(self):
        all_plans(3).clear()
        self.assertEqual(len(all_plans(3)), 7)


if __name__ == "__main__":
    unittest.main()
