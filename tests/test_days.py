"""Days [2] and what each sight costs [1.4]."""

import itertools
import random
import unittest

from putbetween.chains import chains
from putbetween.days import day_hands, day_plan, left_out, meet_costs, rounds, sight_costs
from putbetween.plans import all_plans, is_plan, with_sight
from tests import plainly

LINE = tuple(tuple(range(item)) for item in range(40))
APART = ((),) * 40
MORNING = [("put", 0), ("put", 1), ("meet", 0, 1), ("put", 0)]


def drawn_days(seed, many, most_puts, most_meets):
    draw = random.Random(seed)
    days = []
    for _ in range(many):
        puts, meets = draw.randrange(most_puts + 1), draw.randrange(most_meets + 1)
        days.append(plainly.drawn_day(draw, puts + meets, puts, draw.randrange(2, 17)))
    return days


def sees(plan):
    return {(item, seen) for item, row in enumerate(plan) for seen in row}


class DayPlan(unittest.TestCase):
    def test_ordinary(self):
        self.assertEqual(day_plan([]), ())
        self.assertEqual(day_plan(()), ())
        self.assertEqual(day_plan([("put", 15)]), ((),))
        self.assertEqual(day_plan([("meet", 0, 15)]), ())
        self.assertEqual(day_plan([("put", 3), ("put", 3)]), ((), (0,)))
        self.assertEqual(day_plan([("put", 0), ("put", 1)]), ((), ()))
        self.assertEqual(day_plan(MORNING), ((), (), (0, 1)))
        self.assertEqual(day_plan(tuple(MORNING)), ((), (), (0, 1)))

    def test_a_meet_tells_both_hands(self):
        self.assertEqual(day_plan([("put", 0), ("meet", 0, 1), ("put", 1)]), ((), (0,)))
        self.assertEqual(day_plan([("put", 0), ("meet", 1, 0), ("put", 1)]), ((), (0,)))
        self.assertEqual(day_plan([("put", 0), ("put", 1), ("meet", 0, 1), ("put", 1)]), ((), (), (0, 1)))

    def test_a_meet_tells_what_had_been_seen_by_then(self):
        self.assertEqual(day_plan([("meet", 0, 1), ("put", 0), ("put", 1)]), ((), ()))
        self.assertEqual(day_plan([("put", 0), ("meet", 0, 1), ("put", 0), ("put", 1)]), ((), (0,), (0,)))

    def test_a_sight_goes_from_hand_to_hand(self):
        relay = [("put", 0)] + [("meet", hand, hand + 1) for hand in range(15)] + [("put", 15)]
        self.assertEqual(day_plan(relay), ((), (0,)))
        back = [("put", 0)] + [("meet", hand, hand + 1) for hand in reversed(range(15))] + [("put", 15), ("put", 1)]
        self.assertEqual(day_plan(back), ((), (), (0,)))

    def test_each_has_seen_just_what_has_spread_to_its_hand(self):
        for day in drawn_days(31, 150, 40, 20) + drawn_days(32, 150, 6, 8):
            before = repr(day)
            plan = day_plan(day)
            self.assertEqual(plan, plainly.day_plan(day), day)
            self.assertIs(is_plan(plan), True)
            self.assertEqual(repr(day), before)

    def test_60_events_and_40_puts(self):
        self.assertEqual(day_plan([("meet", 0, 1)] * 60), ())
        self.assertEqual(day_plan([("put", 5)] * 40), LINE)
        self.assertEqual(day_plan([("put", 5)] * 40 + [("meet", 5, 6)] * 20), LINE)
        draw = random.Random(33)
        for _ in range(20):
            day = plainly.drawn_day(draw, 60, 40, 16)
            self.assertEqual(day_plan(day), plainly.day_plan(day))


class DayHands(unittest.TestCase):
    def test_ordinary(self):
        self.assertEqual(day_hands([]), ())
        self.assertEqual(day_hands(MORNING), (0, 1, 0))
        self.assertEqual(day_hands((("meet", 3, 4), ("put", 15), ("put", 0))), (15, 0))
        self.assertIs(type(day_hands(MORNING)), tuple)

    def test_drawn_days(self):
        for day in drawn_days(34, 50, 40, 20):
            before = repr(day)
            hands = day_hands(day)
            self.assertEqual(hands, tuple(event[1] for event in day if event[0] == "put"))
            self.assertEqual(len(hands), len(day_plan(day)))
            self.assertEqual(repr(day), before)


class MeetCosts(unittest.TestCase):
    def test_ordinary(self):
        self.assertEqual(meet_costs([]), ())
        self.assertEqual(meet_costs([("put", 0)]), ())
        self.assertEqual(meet_costs([("meet", 0, 1), ("meet", 1, 2)]), (0, 0))
        self.assertEqual(meet_costs(MORNING), (1,))
        self.assertEqual(meet_costs(tuple(MORNING + [("meet", 0, 1), ("put", 1)])), (2, 3))
        self.assertEqual(meet_costs([("put", 0), ("meet", 0, 1), ("meet", 0, 1), ("put", 1)]), (0, 0))

    def test_chains_counted_with_and_without_each_meet(self):
        for day in drawn_days(35, 60, 8, 12):
            before = repr(day)
            costs = []
            for index, event in enumerate(day):
                if event[0] == "meet":
                    lacking = plainly.day_plan(plainly.without(day, [index]))
                    costs.append(len(plainly.all_chains(plainly.day_plan(day))) - len(plainly.all_chains(lacking)))
            self.assertEqual(meet_costs(day), tuple(costs), day)
            self.assertEqual(repr(day), before)

    def test_large_days(self):
        day = [("put", 0)] * 20 + [("meet", 0, 1)] + [("put", 1)] * 20
        self.assertEqual(meet_costs(day), (2 ** 40 - 1 - 2 * (2 ** 20 - 1),))
        for day in drawn_days(36, 20, 40, 20):
            costs = meet_costs(day)
            meets = [index for index, event in enumerate(day) if event[0] == "meet"]
            wanted = [chains(day_plan(day)) - chains(day_plan(plainly.without(day, [index]))) for index in meets]
            self.assertEqual(costs, tuple(wanted))


class SightCosts(unittest.TestCase):
    def test_ordinary(self):
        self.assertEqual(sight_costs(()), {})
        self.assertEqual(sight_costs(((),)), {})
        self.assertEqual(sight_costs(((), (0,))), {})
        self.assertEqual(sight_costs(((), ())), {(1, 0): 1})
        self.assertEqual(sight_costs(((), (0,), (0,))), {(2, 1): 2})
        self.assertEqual(sight_costs(((), (), (1,))), {(1, 0): 3, (2, 0): 1})
        self.assertEqual(sight_costs(LINE), {})

    def test_chains_counted_with_each_sight(self):
        small = [plan for many in range(5) for plan in all_plans(many)]
        for plan in small + plainly.drawn_plans(37, 30, 8):
            costs = {}
            for item in range(len(plan)):
                for seen in range(item):
                    if seen not in plan[item]:
                        more = plainly.closure(plan[:item] + (plan[item] + (seen,),) + plan[item + 1:])
                        costs[item, seen] = len(plainly.all_chains(more)) - len(plainly.all_chains(plan))
            self.assertEqual(sight_costs(plan), costs, plan)

    def test_large_plans(self):
        self.assertEqual(len(sight_costs(APART)), 780)
        self.assertEqual(set(sight_costs(APART).values()), {1})
        for plan in plainly.drawn_plans(38, 6, 40):
            costs = sight_costs(plan)
            lacking = {(item, seen) for item in range(len(plan)) for seen in range(item)} - sees(plan)
            self.assertEqual(set(costs), lacking)
            for item, seen in sorted(lacking)[:40]:
                self.assertEqual(costs[item, seen], chains(with_sight(plan, item, seen)) - chains(plan))

    def test_new_each_time(self):
        plan = ((), ())
        sight_costs(plan).clear()
        self.assertEqual(sight_costs(plan), {(1, 0): 1})
        self.assertIsNot(sight_costs(plan), sight_costs(plan))
        self.assertIs(type(sight_costs(plan)), dict)


class Rounds(unittest.TestCase):
    def test_ordinary(self):
        self.assertEqual(rounds(2, 2), ((), (), (0, 1), (0, 1)))
        self.assertEqual(rounds(1, 3), ((), (0,), (0, 1)))
        self.assertEqual(rounds(3, 1), ((), (), ()))

    def test_0_hands_and_0_times(self):
        for many in range(41):
            self.assertEqual(rounds(0, many), ())
            self.assertEqual(rounds(many, 0), ())

    def test_all_of_at_most_40_items(self):
        for hands in range(1, 41):
            for times in range(40 // hands + 1):
                self.assertEqual(rounds(hands, times), plainly.rounds(hands, times))
                self.assertEqual(chains(rounds(hands, times)), (hands + 1) ** times - 1)


class LeftOut(unittest.TestCase):
    def test_ordinary(self):
        self.assertEqual(left_out(MORNING, 5), ())
        self.assertEqual(left_out(MORNING, 4), (2,))
        self.assertIsNone(left_out(MORNING, 3))
        self.assertEqual(left_out([], 0), ())
        self.assertEqual(left_out([("meet", 0, 1)], 0), ())
        self.assertIsNone(left_out([("put", 0)], 0))
        self.assertEqual(left_out(((("put", 0)), ("meet", 0, 1), ("put", 1)), 10 ** 60), ())

    def test_the_least_of_the_fewest(self):
        twice = [("put", 0), ("meet", 0, 1), ("meet", 0, 1), ("put", 1)]
        self.assertEqual(left_out(twice, 2), (1, 2))
        row = [("put", 0), ("meet", 0, 1), ("meet", 1, 2), ("meet", 2, 3), ("put", 3)]
        self.assertEqual(left_out(row, 2), (1,))

    def test_all_choices_on_small_days(self):
        for day in drawn_days(39, 40, 6, 6):
            before = repr(day)
            meets = [index for index, event in enumerate(day) if event[0] == "meet"]
            choices = []
            for many in range(len(meets) + 1):
                choices.extend(itertools.combinations(meets, many))
            numbers = {c: len(plainly.all_chains(plainly.day_plan(plainly.without(day, c)))) for c in choices}
            whole = numbers[()]
            for most in sorted({0, 1, whole, whole + 1} | {n - k for n in numbers.values() for k in (0, 1) if n}):
                enough = [choice for choice in choices if numbers[choice] <= most]
                wanted = min(enough, key=lambda choice: (len(choice), choice), default=None)
                self.assertEqual(left_out(day, most), wanted, (day, most))
            self.assertEqual(repr(day), before)

    def test_as_many_chains_as_the_day_has(self):
        for day in drawn_days(40, 30, 40, 10):
            self.assertEqual(left_out(day, chains(day_plan(day))), ())

    def test_10_meets(self):
        day = [("put", hand) for hand in range(11)] + [("meet", hand, hand + 1) for hand in range(10)]
        day += [("put", hand) for hand in range(11)]
        bare = chains(day_plan([event for event in day if event[0] == "put"]))
        self.assertEqual(left_out(day, bare), tuple(range(11, 21)))
        self.assertIsNone(left_out(day, bare - 1))
        self.assertEqual(left_out(day, chains(day_plan(day)) - 1), (11,))


if __name__ == "__main__":
    unittest.main()
