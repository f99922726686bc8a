"""Which error each call raises [0.3], whatever is passed, and which one comes first."""

import unittest

from putbetween.books import book_fault, is_right_book, plain_book
from putbetween.chains import beginning, between, by_length, chains, ending, is_chain, through, weighed
from putbetween.days import sight_costs
from putbetween.descents import (
    descent_faulty, descent_foe, descent_names, descent_played, is_descent_foe, many_descents)
from putbetween.errors import NoItem, NoItems, NoNumber, NoPlan, NoSights, TooLarge
from putbetween.foes import foe, is_foe
from putbetween.likeness import is_sameness, sameness
from putbetween.lots import is_lot_foe, lot_faulty, lot_foe, lot_names, lot_played, lots_needed, many_lots
from putbetween.naming import names, run_with, standing, view
from putbetween.plans import all_plans, behind, beside, part, plan_of, repeated, turned, with_sight
from putbetween.playing import faulty, plain_namer, plain_table, played, rank_namer
from putbetween.ranks import ahead, all_chains, chain_at, longest, rank
from putbetween.rooms import document, many_room_runs, room_names
from putbetween.runs import many_runs, number_of, run_at, run_of
from putbetween.shapes import bar, plan_shape
from putbetween.stocks import fewest_hands, is_fewest, stocks
from putbetween.texts import plan_text
from putbetween.ties import many_tie_names, tie_names, tie_played, tie_standing
from putbetween.webs import is_web_foe, many_webs, web_faulty, web_foe, web_names, web_played, webs_needed
from putbetween.words import chain_of, word, words
from tests import plainly
from tests.wrong import assert_error, things, with_things

THREE = ((), (0,), (0, 1))
APART = ((),) * 40

# Good arguments, and how many of them, from the first one on, are plans.
WITH_PLANS = [
    (behind, (THREE, THREE), 2),
    (beside, (THREE, THREE), 2),
    (repeated, (THREE, 2), 1),
    (turned, (THREE,), 1),
    (part, (THREE, (0, 2)), 1),
    (with_sight, (THREE, 2, 0), 1),
    (sameness, (THREE, THREE), 2),
    (is_sameness, (THREE, THREE, (0, 1, 2)), 2),
    (is_chain, (THREE, (0,)), 1),
    (chains, (THREE,), 1),
    (ending, (THREE,), 1),
    (beginning, (THREE,), 1),
    (by_length, (THREE,), 1),
    (weighed, (THREE, 2), 1),
    (through, (THREE, 1), 1),
    (between, (THREE, 0, 2), 1),
    (sight_costs, (THREE,), 1),
    (ahead, (THREE, (0,), (0, 1)), 1),
    (rank, (THREE, (0, 2)), 1),
    (chain_at, (THREE, 0), 1),
    (all_chains, (THREE,), 1),
    (longest, (THREE,), 1),
    (many_runs, (THREE,), 1),
    (run_at, (THREE, 0), 1),
    (number_of, (THREE, (0, 0, 0)), 1),
    (run_of, (THREE, (0, 1, 2)), 1),
    (names, (THREE, (0, 0, 0)), 1),
    (standing, (THREE, (0, 0, 0)), 1),
    (view, (THREE, (0, 0, 0), 1), 1),
    (run_with, (THREE, ((0,),)), 1),
    (word, (THREE, (0,)), 1),
    (chain_of, (THREE, "z"), 1),
    (words, (THREE, (0, 0, 0)), 1),
    (played, (THREE, (0, 0, 0), plain_namer, plain_table), 1),
    (faulty, (THREE, plain_namer, plain_table), 1),
    (plain_namer, (THREE, 0, (), 0), 1),
    (rank_namer, (THREE, 0, (), 0), 1),
    (foe, (THREE, plain_namer, plain_table), 1),
    (is_foe, (THREE, plain_namer, plain_table, None), 1),
    (book_fault, (THREE, {}, ()), 1),
    (is_right_book, (THREE, {}, ()), 1),
    (plain_book, (THREE,), 1),
    (stocks, (THREE, (0, 0, 0)), 1),
    (fewest_hands, (THREE,), 1),
    (is_fewest, (THREE, ((0, 0, 0), (0,))), 1),
    (many_room_runs, (THREE, 1), 1),
    (document, (THREE, 1, (None, None, None)), 1),
    (room_names, (THREE, 1, (None, None, None)), 1),
    (many_descents, (THREE,), 1),
    (descent_names, (THREE, (None, None, None)), 1),
    (descent_played, (THREE, (None, None, None), plain_namer, plain_table), 1),
    (descent_faulty, (THREE, plain_namer, plain_table), 1),
    (descent_foe, (THREE, plain_namer, plain_table), 1),
    (is_descent_foe, (THREE, plain_namer, plain_table, None), 1),
    (many_lots, (THREE,), 1),
    (lots_needed, (THREE,), 1),
    (lot_names, (THREE, (0, 1, 2)), 1),
    (lot_played, (THREE, (0, 1, 2), plain_namer, plain_table), 1),
    (lot_faulty, (THREE, plain_namer, plain_table), 1),
    (lot_foe, (THREE, plain_namer, plain_table), 1),
    (is_lot_foe, (THREE, plain_namer, plain_table, None), 1),
    (webs_needed, (THREE, 2), 1),
    (many_webs, (THREE, 2), 1),
    (web_names, (THREE, 2, ((), (0,), (0, 0))), 1),
    (web_played, (THREE, 2, ((), (0,), (0, 0)), plain_namer, plain_table), 1),
    (web_faulty, (THREE, 2, plain_namer, plain_table), 1),
    (web_foe, (THREE, 2, plain_namer, plain_table), 1),
    (is_web_foe, (THREE, 2, plain_namer, plain_table, None), 1),
    (many_tie_names, (THREE,), 1),
    (tie_names, (THREE, (("gap", 0),) * 3), 1),
    (tie_standing, (THREE, (("gap", 0),) * 3), 1),
    (tie_played, (THREE, (("gap", 0),) * 3, plain_namer, plain_table), 1),
    (plan_text, (THREE,), 1),
    (plan_shape, (THREE,), 1),
    (bar, (THREE,), 1),
]


def is_number(least, most, thing):
    return type(thing) is int and least <= thing <= most


def is_part(plan, thing):
    if type(thing) is not tuple or not all(is_number(0, len(plan) - 1, item) for item in thing):
        return False
    return list(thing) == sorted(set(thing))


class NoPlans(unittest.TestCase):
    def test_any_thing_in_the_place_of_a_plan_and_of_its_parts(self):
        for function, arguments, plans in WITH_PLANS:
            for at in range(plans):
                for thing in with_things(THREE):
                    if not plainly.is_plan(thing):
                        passed = arguments[:at] + (thing,) + arguments[at + 1:]
                        assert_error(self, NoPlan(), function, *passed)

    def test_ahead_of_all_other_errors(self):
        for function, arguments, plans in WITH_PLANS:
            for thing in things():
                bad = [None] * plans + [thing] * (len(arguments) - plans)
                assert_error(self, NoPlan(), function, *bad)
        for function in (behind, beside, sameness):
            assert_error(self, NoPlan(), function, APART, None)
            assert_error(self, NoPlan(), function, None, APART)

    def test_41_items_are_no_plan(self):
        for function, arguments, plans in WITH_PLANS:
            for at in range(plans):
                passed = arguments[:at] + (APART + ((),),) + arguments[at + 1:]
                assert_error(self, NoPlan(), function, *passed)


class Sights(unittest.TestCase):
    def test_any_thing_in_any_place(self):
        for good in [[], [[]], [[], [0], (0, 1)], ((), (0,), [1])]:
            for thing in with_things(good):
                if plainly.is_sights(thing):
                    self.assertEqual(plan_of(thing), plainly.closure(thing))
                else:
                    assert_error(self, NoSights(), plan_of, thing)

    def test_edges(self):
        self.assertEqual(plan_of([[]] * 40), APART)
        assert_error(self, NoSights(), plan_of, [[]] * 41)
        assert_error(self, NoSights(), plan_of, [[0]])
        assert_error(self, NoSights(), plan_of, [[], [1]])
        assert_error(self, NoSights(), plan_of, [[], [-1]])
        assert_error(self, NoSights(), plan_of, [[], [False]])
        assert_error(self, NoSights(), plan_of, [[], b"\x00"])
        assert_error(self, NoSights(), plan_of, [[], {0: 0}])


class Sizes(unittest.TestCase):
    def test_behind_and_beside(self):
        for function in (behind, beside):
            self.assertEqual(len(function(APART[:20], APART[:20])), 40)
            assert_error(self, TooLarge(40), function, APART[:20], APART[:21])
            assert_error(self, TooLarge(40), function, APART, ((),))
            assert_error(self, TooLarge(40), function, ((),), APART)
            assert_error(self, TooLarge(40), function, APART, APART)

    def test_repeated(self):
        self.assertEqual(len(repeated(APART[:20], 2)), 40)
        self.assertEqual(len(repeated(APART[:1], 40)), 40)
        assert_error(self, TooLarge(40), repeated, APART[:21], 2)
        assert_error(self, TooLarge(40), repeated, APART[:2], 40)
        assert_error(self, TooLarge(40), repeated, APART, 40)
        assert_error(self, TooLarge(40), repeated, APART[:14], 3)

    def test_sameness(self):
        nine, ten = APART[:9], APART[:10]
        self.assertEqual(sameness(nine, nine), tuple(range(9)))
        assert_error(self, TooLarge(9), sameness, ten, ten)
        assert_error(self, TooLarge(9), sameness, ten, nine)
        assert_error(self, TooLarge(9), sameness, nine, ten)
        assert_error(self, TooLarge(9), sameness, (), ten)
        assert_error(self, TooLarge(9), sameness, APART, ())
        self.assertIs(is_sameness(ten, ten, tuple(range(10))), True)


class Numbers(unittest.TestCase):
    def test_times(self):
        for thing in things():
            if not is_number(0, 40, thing):
                assert_error(self, NoNumber(), repeated, (), thing)
                assert_error(self, NoNumber(), repeated, APART, thing)
        assert_error(self, NoNumber(), repeated, APART, 41)
        assert_error(self, NoNumber(), repeated, (), 41)
        assert_error(self, NoNumber(), repeated, (), -1)

    def test_many(self):
        for thing in things() + [6]:
            if not is_number(0, 5, thing):
                assert_error(self, NoNumber(), all_plans, thing)

    def test_weight(self):
        for thing in things() + [1001]:
            for plan in ((), THREE):
                if is_number(0, 1000, thing):
                    wanted = sum(thing ** (len(chain) - 1) for chain in plainly.all_chains(plan))
                    self.assertEqual(weighed(plan, thing), wanted)
                else:
                    assert_error(self, NoNumber(), weighed, plan, thing)


class Items(unittest.TestCase):
    def test_items_of_a_part(self):
        for plan in [(), ((),), THREE, APART]:
            for good in [(), (0,), (0, 1), (0, 1, 2)]:
                for thing in with_things(good):
                    if not is_part(plan, thing):
                        assert_error(self, NoItems(), part, plan, thing)
                    else:
                        self.assertEqual(len(part(plan, thing)), len(thing))
        assert_error(self, NoItems(), part, THREE, [0, 1])
        assert_error(self, NoItems(), part, THREE, (1, 0))
        assert_error(self, NoItems(), part, THREE, (1, 1))
        assert_error(self, NoItems(), part, THREE, (0, 3))
        assert_error(self, NoItems(), part, THREE, (-1, 0))
        assert_error(self, NoItems(), part, APART, tuple(range(41)))

    def test_items_of_with_sight(self):
        for thing in things():
            for plan in [(), ((),), THREE, APART]:
                if not is_number(1, len(plan) - 1, thing):
                    assert_error(self, NoItem(), with_sight, plan, thing, 0)
                assert_error(self, NoItem(), with_sight, plan, 0, thing)
                assert_error(self, NoItem(), with_sight, plan, thing, None)
            if not is_number(0, 1, thing):
                assert_error(self, NoItem(), with_sight, THREE, 2, thing)
        assert_error(self, NoItem(), with_sight, THREE, 1, 1)
        assert_error(self, NoItem(), with_sight, THREE, 1, 2)
        assert_error(self, NoItem(), with_sight, THREE, 3, 0)

    def test_items_of_through_and_between(self):
        for thing in things():
            for plan in [(), ((),), THREE, APART]:
                if not is_number(0, len(plan) - 1, thing):
                    assert_error(self, NoItem(), through, plan, thing)
                    assert_error(self, NoItem(), between, plan, thing, 0)
                    assert_error(self, NoItem(), between, plan, 0, thing)
                    assert_error(self, NoItem(), between, plan, thing, thing)
        assert_error(self, NoItem(), through, THREE, 3)
        assert_error(self, NoItem(), between, THREE, 0, 3)
        assert_error(self, NoItem(), between, THREE, 3, 0)


if __name__ == "__main__":
    unittest.main()
