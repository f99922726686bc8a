"""The whole program: one plan come by in all ways, plans with other numbers, and what holds for every call [0.3, 0.4]."""

import importlib
import itertools
import random
import unittest

from putbetween.books import plain_book
from putbetween.chains import beginning, between, by_length, chains, ending, is_chain, through, weighed
from putbetween.days import day_hands, day_plan, left_out, meet_costs, rounds, sight_costs
from putbetween.descents import many_descents
from putbetween.desks import Desk
from putbetween.errors import TooMany
from putbetween.heaps import heap_run, lacking, least_plan
from putbetween.likeness import is_sameness, sameness
from putbetween.lots import lots_needed, many_lots
from putbetween.naming import names, standing, view
from putbetween.papers import Paper
from putbetween.plans import all_plans, is_plan, plan_of, turned
from putbetween.playing import plain_namer, plain_table, played, rank_namer, rank_table
from putbetween.ranks import all_chains, longest
from putbetween.rooms import many_room_runs
from putbetween.runs import many_runs, number_of, run_of
from putbetween.shapes import bar, plan_shape, read_shape
from putbetween.stocks import fewest_hands, stocks
from putbetween.texts import day_text, plan_text, read_day, read_plan
from putbetween.ties import many_tie_names
from putbetween.webs import many_webs, webs_needed
from putbetween.words import words
from tests import plainly, strange, strange_marks, strange_ties
from tests.test_errors_raised import WITH_PLANS
from tests.test_interface import CLASSES, FUNCTIONS
from tests.test_shapes import drawn_shape
from tests.wrong import desk, paper, shown, things

THREE = ((), (0,), (0, 1))

# What is told of a plan alone.
OF_PLANS = [
    beginning, by_length, chains, ending, sight_costs, many_descents, lots_needed, longest, many_runs, bar, plan_shape,
    fewest_hands, plan_text, many_tie_names, turned,
]


def lots_of(plan):
    """The number of the lot runs, or None if there are too many."""
    try:
        return many_lots(plan)
    except TooMany:
        return None


class OnePlan(unittest.TestCase):
    def assert_one(self, plan, others):
        """Hold that the plans are one, and that all functions tell the same of them."""
        for other in others:
            self.assertTrue(strange.same(other, plan))
            self.assertIs(is_plan(other), True)
            for function in OF_PLANS:
                self.assertTrue(strange.same(function(other), function(plan)), function.__name__)
            self.assertEqual(weighed(other, 3), weighed(plan, 3))
            self.assertEqual(many_room_runs(other, 2), many_room_runs(plan, 2))
            self.assertEqual(webs_needed(other, 3), webs_needed(plan, 3))

    def assert_desk(self, line, plan):
        """Hold that a desk tells of what the line brings what the functions tell of the plan."""
        told = Desk()
        self.assertEqual(told.tell(line), "ok")
        self.assertEqual(told.tell("chains x"), str(chains(plan)))
        self.assertEqual(told.tell("ending x"), " ".join(str(many) for many in ending(plan)) or "none")
        self.assertEqual(told.tell("lots x"), str(lots_needed(plan)))
        self.assertEqual(told.tell("shaped x"), plan_shape(plan) or "none")
        text = plan_text(plan).replace("\n", "/") or "-"
        self.assertEqual(told.tell(f"plan y {text}"), "ok")
        if len(plan) <= 9:
            self.assertEqual(told.tell("same x y"), "yes")
        run = ",".join(str(len(row)) for row in plan) or "-"
        wanted = names(plan, tuple(len(row) for row in plan))
        self.assertEqual(told.tell(f"names x {run}"), " ".join(",".join(str(i) for i in name) for name in wanted) or "none")

    def test_a_day_its_text_a_paper_and_a_desk(self):
        draw = random.Random(541)
        for many in list(range(0, 41, 3)) + [2, 4, 5, 7, 8] * 3:
            day = plainly.drawn_day(draw, min(60, many + draw.randrange(20)), many, 8)
            plan = day_plan(day)
            paper = Paper(8)
            for event in day:
                if event[0] == "meet":
                    paper.meet(event[1], event[2])
                else:
                    paper.put(event[1], draw.randrange(len(paper.view(event[1])) + 1))
            self.assert_one(plan, [
                plainly.day_plan(day), day_plan(list(day)), day_plan(read_day(day_text(day))), read_plan(plan_text(plan)),
                paper.plan(), paper.copy().plan(), plan_of(plan), plan_of([list(row) for row in plan])])
            self.assertEqual(paper.hands(), day_hands(day))
            self.assertEqual(paper.changes(), len(day))
            self.assert_desk("day x " + (day_text(day).replace("\n", "/") or "-"), plan)
            self.assert_desk("plan x " + (plan_text(plan).replace("\n", "/") or "-"), plan)
            run = paper.run()
            self.assertEqual(paper.names(), names(plan, run))
            self.assertEqual(paper.standing(), standing(plan, run))
            self.assertEqual(run_of(plan, paper.standing()), run)
            self.assertEqual(played(plan, run, rank_namer, rank_table)[2], paper.standing())
            if len(plan) <= 26:
                self.assertEqual(played(plan, run, plain_namer, plain_table)[1], words(plan, run))
                self.assertEqual(heap_run(words(plan, run), plan), run)
            self.assertGreaterEqual(number_of(plan, run), 0)
            for item in range(len(plan)):
                self.assertEqual(view(plan, run, item), tuple(u for u in paper.standing() if u in plan[item]))

    def test_shapes(self):
        draw = random.Random(542)
        for items in list(range(1, 41, 3)) + list(range(1, 10)):
            text = drawn_shape(draw, items)
            plan = read_shape(text)
            self.assert_one(plan, [read_shape(f"({text})"), read_plan(plan_text(plan)), plan_of(plan)])
            self.assert_desk(f"shape x {text}", plan)
            if items <= 9:
                other = read_shape(plan_shape(plan))
                self.assertIs(is_sameness(plan, other, sameness(plan, other)), True)

    def test_rounds_in_all_ways(self):
        for hands, times in itertools.product(range(1, 7), range(1, 7)):
            day = []
            for _ in range(times):
                day += [("put", hand) for hand in range(hands)]
                # All hands have seen what one of them has gathered and then shown to all.
                day += [("meet", 0, hand) for hand in range(1, hands)] * 2
            if len(day) > 60 or hands * times > 40:
                continue
            plan = rounds(hands, times)
            text = f"{times}({'|'.join('.' * hands)})"
            paper = Paper(max(hands, 2))
            for event in day:
                paper.put(event[1], 0) if event[0] == "put" else paper.meet(*event[1:])
            self.assert_one(plan, [day_plan(day), read_shape(text), paper.plan(), read_plan(plan_text(plan))])
            self.assertEqual(chains(plan), (hands + 1) ** times - 1)
            for line in [f"shape x {text}", "day x " + day_text(day).replace("\n", "/")]:
                self.assert_desk(line, plan)
            hand_of = paper.hands()
            self.assertEqual(sum(stocks(plan, hand_of)), chains(plan))


class OtherNumbers(unittest.TestCase):
    def test_the_same_numbers_everywhere(self):
        draw = random.Random(543)
        plans = plainly.drawn_plans(544, 60, 12) + plainly.drawn_plans(545, 15, 40)
        plans += [read_shape(drawn_shape(draw, items)) for items in range(1, 41)]
        for plan in plans:
            order = strange.renumbered(draw, plan)
            rows = [None] * len(plan)
            for item, number in enumerate(order):
                rows[number] = tuple(sorted(order[seen] for seen in plan[item]))
            other = tuple(rows)
            self.assertIs(is_plan(other), True)
            self.assertIs(is_sameness(plan, other, tuple(order)), True)
            for function in [chains, by_length, many_runs, many_descents, lots_needed, many_tie_names, lots_of]:
                self.assertEqual(function(other), function(plan), function.__name__)
            for number in range(6):
                self.assertEqual(weighed(other, number), weighed(plan, number))
                self.assertEqual(many_room_runs(other, number), many_room_runs(plan, number))
                if number:
                    self.assertEqual(webs_needed(other, number), webs_needed(plan, number))
                    self.assertEqual(many_webs(other, number), many_webs(plan, number))
            hands = tuple(draw.randrange(4) for _ in plan)
            moved = tuple(hands[order.index(number)] for number in range(len(plan)))
            self.assertEqual(stocks(other, moved), stocks(plan, hands))
            self.assertEqual(len(fewest_hands(other)[1]), len(fewest_hands(plan)[1]))
            self.assertEqual(len(longest(other)), len(longest(plan)))
            self.assertEqual(bar(other) is None, bar(plan) is None)
            self.assertEqual(plan_shape(other) is None, plan_shape(plan) is None)
            for item, number in enumerate(order):
                self.assertEqual(ending(other)[number], ending(plan)[item])
                self.assertEqual(beginning(other)[number], beginning(plan)[item])
                self.assertEqual(through(other, number), through(plan, item))
                self.assertEqual(between(other, order[0], number), between(plan, 0, item))
            costs = {tuple(order[item] for item in pair): cost for pair, cost in sight_costs(plan).items()}
            for pair, cost in sight_costs(other).items():
                self.assertEqual(costs.get(pair, cost), cost)
            if len(plan) <= 9:
                self.assertIsNotNone(sameness(plan, other))
            if plan_shape(plan) is not None and len(plan) <= 9:
                self.assertIsNotNone(sameness(read_shape(plan_shape(plan)), read_shape(plan_shape(other))))


# Calls of the functions whose first argument is no plan.
OTHERS = [
    ("plans", "is_plan", (THREE,)), ("plans", "plan_of", ([[], [0], [1]],)), ("plans", "all_plans", (4,)),
    ("days", "day_plan", ([("put", 0), ("meet", 0, 1), ("put", 1)],)), ("days", "rounds", (2, 3)),
    ("days", "day_hands", ([("put", 0), ("meet", 0, 1), ("put", 1)],)),
    ("days", "meet_costs", ([("put", 0), ("meet", 0, 1), ("put", 1)],)),
    ("days", "left_out", ([("put", 0), ("meet", 0, 1), ("put", 1)], 2)),
    ("heaps", "least_plan", (["z", "zy", "x"],)), ("heaps", "heap_run", (["z", "zy", "x"], THREE)),
    ("heaps", "lacking", (["zyx", "zx"],)), ("playing", "plain_table", ("z", "y")), ("playing", "rank_table", (3, 4)),
    ("rooms", "room_told", (((0, 0), (1, 1)), ((0, 0),))), ("growth", "needed", ({"a": ("a", "a")}, "a", 5)),
    ("growth", "gaps", ({"a": ("a", "a")}, "a", 5)), ("growth", "speed", ({"a": ("a", "a")}, "a")),
    ("growth", "is_double", ({"a": ("a",)}, "a", None)), ("ties", "tie_told", (((0,), None), ((0,), 1))),
    ("texts", "day_text", ([("put", 0), ("meet", 0, 1)],)), ("texts", "read_plan", ("0:\n1: 0\n",)),
    ("texts", "read_day", ("put 0\nmeet 0 1\n",)), ("shapes", "read_shape", (".>(.|.)",)),
]


def parts_of(thing):
    """All lists and dicts in a thing."""
    found = [thing] if type(thing) in (list, dict) else []
    if type(thing) is dict:
        inner = list(thing.items())
    else:
        inner = thing if type(thing) in (list, tuple) else []
    return found + [part for one in inner for part in parts_of(one)]


class Calls(unittest.TestCase):
    def calls(self):
        """A call of each function of the interface, its strangers being right ones."""
        strangers = {
            "lot": (strange_marks.right_namer(strange_marks.Lots(), range(3)), strange_marks.Lots().table),
            "web": (strange_marks.right_namer(strange_marks.Webs(2), range(3)), strange_marks.Webs(2).table),
            "tie": (strange_ties.right_namer(range(3)), strange_ties.right_table),
            "descent": (strange.descent_namer(range(3)), strange.descent_table),
        }
        for function, arguments, _ in WITH_PLANS:
            kinds = [kind for kind in strangers if kind in function.__name__.split("_")]
            if plain_namer in arguments and kinds:
                at = arguments.index(plain_namer)
                arguments = arguments[:at] + strangers[kinds[0]] + arguments[at + 2:]
            yield function, arguments
        for module, name, arguments in OTHERS:
            yield getattr(importlib.import_module("putbetween." + module), name), arguments

    def test_all_functions_are_called_here(self):
        called = {(function.__module__, function.__name__) for function, _ in self.calls()}
        listed = {("putbetween." + module, name) for module, names in FUNCTIONS.items() for name in names}
        self.assertEqual(called, listed)

    def test_equal_calls_give_equal_answers_and_change_nothing(self):
        for function, arguments in self.calls():
            before = shown(arguments)
            found = function(*arguments)
            self.assertEqual(shown(arguments), before, function.__name__)
            self.assertTrue(strange.same(function(*arguments), found), function.__name__)
            if function.__name__.startswith("is_"):
                self.assertIs(type(found), bool)

    def test_lists_and_dicts_are_new(self):
        met = set()
        for function, arguments in self.calls():
            found, before = function(*arguments), repr(function(*arguments))
            passed = {id(part) for part in parts_of(arguments)}
            for part in parts_of(found):
                self.assertNotIn(id(part), passed, function.__name__)
                part.clear()
                met.add(function.__name__)
            self.assertEqual(repr(function(*arguments)), before, function.__name__)
        self.assertEqual(met, {
            "all_plans", "all_chains", "sight_costs", "lacking", "plain_book", "foe", "descent_foe", "lot_foe", "web_foe",
            "gaps", "read_day"})

    def test_new_lists_and_dicts_by_hand(self):
        for function, arguments in [(all_plans, (3,)), (all_chains, (THREE,)), (lacking, (["zyx"],)), (sight_costs, (((), ()),)),
                                    (read_day, ("put 0\n",))]:
            found = function(*arguments)
            self.assertIsNot(function(*arguments), found)
        one, other = plain_book(THREE), plain_book(THREE)
        self.assertIsNot(one[0], other[0])

    def test_judges_take_things_of_every_kind(self):
        judges = [(function, arguments) for function, arguments in self.calls() if function.__name__.startswith("is_")]
        self.assertEqual(len(judges), 10)
        for function, arguments in judges:
            for thing in things():
                before = shown(thing)
                self.assertIs(type(function(*arguments[:-1], thing)), bool, (function.__name__, repr(thing)[:100]))
                self.assertEqual(shown(thing), before)

    def test_papers_and_desks_are_no_plans_and_no_parts_of_any(self):
        for thing in [paper(), desk(), Paper, Desk]:
            self.assertIs(is_plan(thing), False)
            self.assertIs(is_plan((thing,)), False)
            self.assertIs(is_plan(((), (thing,))), False)
            self.assertIs(is_chain(THREE, (thing,)), False)
            self.assertIs(is_chain(THREE, (0, thing)), False)
            self.assertIs(is_sameness(THREE, THREE, (0, thing, 2)), False)


class Listed(unittest.TestCase):
    def test_each_function_and_class_can_be_imported(self):
        for module, listed in [*FUNCTIONS.items(), *CLASSES.items()]:
            found = importlib.import_module("putbetween." + module)
            for name in listed:
                self.assertTrue(callable(getattr(found, name)))

    def test_facts_that_many_modules_share(self):
        for plan in plainly.drawn_plans(546, 30, 9):
            many = chains(plan)
            self.assertEqual(webs_needed(plan, 1), len(plan))
            self.assertEqual(many_descents(plan), many_runs(plan))
            self.assertEqual(weighed(plan, 1), many)
            self.assertEqual(len(all_chains(plan)), many)
            self.assertEqual(least_plan(words(plan, (0,) * len(plan))), ((),) * len(plan))
            self.assertIsNone(left_out([("put", 0)], 0))
            self.assertEqual(meet_costs([("meet", 0, 1)]), (0,))


if __name__ == "__main__":
    unittest.main()
