"""Shapes [17.2, 17.3]: strings that are read as plans, the shape of a plan, and the bar to it."""

import functools
import itertools
import random
import re
import unittest

from putbetween.chains import by_length, chains, ending
from putbetween.errors import BadShape, TooLarge
from putbetween.likeness import is_sameness, sameness
from putbetween.plans import all_plans, behind, beside, repeated
from putbetween.shapes import bar, plan_shape, read_shape
from tests import plainly, strange
from tests.wrong import assert_error, things

LINE = tuple(tuple(range(item)) for item in range(40))
APART = ((),) * 40
BARRED = ((), (), (0, 1), (1,))

TIMES = [str(number) for number in range(1, 41)]


@functools.cache
def is_shape(text):
    """The words of 17.2: `.`, A>B, A|B, (A), N. and N(A)."""
    if text == ".":
        return True
    for many in (0, 1, 2):
        rest = text[many:]
        if many == 0 or text[:many] in TIMES:
            if many and rest == "." or rest[:1] == "(" and rest[-1:] == ")" and is_shape(rest[1:-1]):
                return True
    return any(sign in ">|" and is_shape(text[:at]) and is_shape(text[at + 1:]) for at, sign in enumerate(text))


@functools.cache
def is_begun(text):
    """Whether some shape begins with the text: if so, then with an item, or without one, and with brackets closed."""
    depth = text.count("(") - text.count(")")
    return depth >= 0 and (is_shape(text + ")" * depth) or is_shape(text + "." + ")" * depth))


def bad_at(text):
    """Where BadShape is due, or None."""
    for at in range(len(text)):
        if not is_begun(text[:at + 1]):
            return at
    return None if is_shape(text) else len(text)


def split(text, sign):
    """The parts of a text between the signs that stand in no brackets."""
    parts, depth = [""], 0
    for one in text:
        depth += (one == "(") - (one == ")")
        if one == sign and depth == 0:
            parts.append("")
        else:
            parts[-1] += one
    return parts


def plan_of(text):
    """The plan of a shape, put together by behind, beside and repeated; None for more than 40 items."""
    for sign, put in (("|", beside), (">", behind)):
        parts = split(text, sign)
        if len(parts) > 1:
            plans = [plan_of(part) for part in parts]
            if None in plans or sum(len(plan) for plan in plans) > 40:
                return None
            return functools.reduce(put, plans)
    times, inner = re.fullmatch(r"([0-9]*)(\.|\(.*\))", text).groups()
    plan = ((),) if inner == "." else plan_of(inner[1:-1])
    if plan is None or len(plan) * int(times or 1) > 40:
        return None
    return repeated(plan, int(times or 1))


def drawn_shape(draw, items):
    """A shape of so many items, its numbers aside."""
    if items == 1:
        return draw.choice([".", ".", ".", "(.)", "1.", "1(.)"])
    times = [number for number in range(2, items + 1) if items % number == 0]
    if draw.randrange(5) == 0 and times:
        number = draw.choice(times)
        return f"{number}({drawn_shape(draw, items // number)})" if number < items else f"{number}."
    first = draw.randrange(1, items)
    parts = [drawn_shape(draw, first), drawn_shape(draw, items - first)]
    parts = [f"({part})" if draw.randrange(2) else part for part in parts]
    return draw.choice(">|").join(parts)


class Cases(unittest.TestCase):
    def assert_read(self, text):
        """Hold what is read of a text against the plain words."""
        at = bad_at(text)
        if at is not None:
            assert_error(self, BadShape(at), read_shape, text)
            return
        wanted = plan_of(text)
        if wanted is None:
            assert_error(self, TooLarge(40), read_shape, text)
        else:
            self.assertTrue(strange.same(read_shape(text), wanted), text)


class Read(Cases):
    def test_ordinary(self):
        for text, plan in [
            (".", ((),)), (".>.", ((), (0,))), (".|.", ((), ())), (".>(.|.)", ((), (0,), (0,))), ("(.)", ((),)),
            (".>.|.", ((), (0,), ())), (".|.>.", ((), (), (1,))), (".>.>.", LINE[:3]), (".|.|.", APART[:3]),
            ("(.|.)>.", ((), (), (0, 1))), ("3.", LINE[:3]), ("2(.|.)", ((), (), (0, 1), (0, 1))), ("1.", ((),)),
            ("2(.>.|.)", ((), (0,), (), (0, 1, 2), (0, 1, 2, 3), (0, 1, 2))), ("2.|2.", ((), (0,), (), (2,))),
            ("40.", LINE), ("2(2(2.))", LINE[:8]), (".>2.", LINE[:3]), ("((.)>((.)))", LINE[:2]), ("10.>.", LINE[:11]),
        ]:
            self.assertEqual(read_shape(text), plan)
            self.assert_read(text)

    def test_brackets_around_parts_change_nothing(self):
        draw = random.Random(521)
        for _ in range(60):
            one, other, third = [drawn_shape(draw, draw.randrange(1, 8)) for _ in range(3)]
            plans = [read_shape(part) for part in (one, other, third)]
            for sign, put in ((">", behind), ("|", beside)):
                whole = put(put(plans[0], plans[1]), plans[2])
                for text in [f"({one}){sign}({other}){sign}({third})", f"(({one}){sign}({other})){sign}({third})",
                             f"({one}){sign}((({other}){sign}({third})))"]:
                    self.assertEqual(read_shape(text), whole)
            self.assertEqual(read_shape(f"{one}|({other})>{third}|{one}"), plan_of(f"{one}|({other})>{third}|{one}"))

    def test_drawn_shapes(self):
        draw = random.Random(522)
        for items in list(range(1, 41)) * 5:
            text = drawn_shape(draw, items)
            self.assertEqual(len(read_shape(text)), items)
            self.assert_read(text)
            self.assert_read(f"{draw.randrange(1, 50)}({text})")
            self.assert_read(text + draw.choice(">|") + text)

    def test_every_text_of_few_signs(self):
        for signs, most in [(".>|()2", 6), (".>()", 8), (".>|()1409", 4), ("(.)", 10), ("04123.", 5), (".>|() -\n", 4)]:
            for many in range(most + 1):
                for text in itertools.product(signs, repeat=many):
                    self.assert_fits("".join(text))

    def assert_fits(self, text):
        """The same as assert_read, made for many texts."""
        try:
            found = read_shape(text)
        except BadShape as error:
            found = error.at
        except TooLarge as error:
            found = None if error.most == 40 else error
        at = bad_at(text)
        self.assertEqual(found, plan_of(text) if at is None else at, text)

    def test_what_some_shape_begins_with(self):
        # All shapes of few signs: just their beginnings are what some shape begins with.
        shapes = {1: {"."}}
        for many in range(2, 10):
            found = {"2." if many == 2 else "22."} if many < 4 else set()
            for times in ("", "2", "22"):
                found |= {f"{times}({text})" for text in shapes.get(many - 2 - len(times), ())}
            for first in range(1, many - 1):
                pairs = itertools.product(shapes[first], ">|", shapes[many - first - 1])
                found |= {"".join(parts) for parts in pairs}
            shapes[many] = found
        texts = set().union(*shapes.values())
        begun = {text[:many] for text in texts for many in range(5)}
        for many in range(5):
            for signs in itertools.product(".>|()2", repeat=many):
                self.assertIs(is_begun("".join(signs)), "".join(signs) in begun, signs)
        for text in texts:
            self.assertTrue(is_shape(text))

    def test_numbers(self):
        for number in range(100):
            self.assert_read(f"{number}.")
            self.assert_read(f"{number}(.)")
            self.assert_read(f"({number}.)>.")
        for text, at in [
            ("0.", 0), ("41.", 1), ("40", 2), ("4", 1), ("400.", 2), ("01.", 0), ("00", 0), ("99.", 1), ("5", 1), ("1", 1),
            ("10", 2), ("39(", 3), (".>41.", 3), ("2>.", 1), ("2|", 1), ("2)", 1), ("2 .", 1), ("3.3.", 2), (".2", 1), ("(2", 2),
            ("-1.", 0), ("+1.", 0), ("1e1.", 1), ("1_0.", 1), ("9" * 5000 + ".", 1), ("1" * 5000, 2), ("0" * 5000, 0),
            ("2.(", 2), ("2(.)3", 4), ("2(41.)", 3), ("3(00)", 2),
        ]:
            assert_error(self, BadShape(at), read_shape, text)

    def test_bad_signs(self):
        for text, at in [
            ("", 0), (")", 0), ("(", 1), ("()", 1), ("(.", 2), (".)", 1), ("..", 1), (".>", 2), (".|", 2), (">.", 0), ("|.", 0),
            (".>>.", 2), (".>|.", 2), (".||.", 2), ("(.))", 3), ("(.)(.)", 3), (".(.)", 1), ("(.).", 3), (" .", 0), (". ", 1),
            (". >.", 1), ("a", 0), (".a", 1), ("(.>", 3), ("((.)", 4), (".\n", 1), ("\n", 0), ("\t", 0), (".>(.|.", 6), ("-", 0),
            (".,.", 1), (".<.", 1), ("[.]", 0), ("(.|)", 3), ("(>.)", 1), ("(.>.", 4), (".>().", 3), ("()", 1), ("(.)2.", 3),
        ]:
            assert_error(self, BadShape(at), read_shape, text)
            self.assertEqual(bad_at(text), at)

    def test_every_sign(self):
        for sign in [chr(number) for number in range(32, 127)] + ["\n", "\t"]:
            for text in ["{}", ".{}", "({}", "(.{}", ".>{}", ".|{}.", "2{}.", "4{}.", "1{}(.)", "({})", "(.){}.", "(.){}"]:
                self.assert_read(text.replace("{}", sign))

    def test_too_large(self):
        for text in ["40.>.", ".>40.", "40.|.", "40(.>.)", "2(21.)", "2(2(2(2(2(2.)))))", ">".join("." * 41),
                     "|".join("." * 41), "40(40.)", "(40.|40.)>.", ".|.|39.", "40(40(40(40(40.))))", ".>.>(39.)", "2(40.)|.",
                     "(((40.)>(.)))"]:
            assert_error(self, TooLarge(40), read_shape, text)
            self.assert_read(text)
        for text in ["40.", "20.>20.", "20.|20.", "40(.)", "2(20.)", "5(2(2(2.)))", ">".join("." * 40), "|".join("." * 40),
                     "1(40.)", "39.>.", ".|39."]:
            self.assertEqual(len(read_shape(text)), 40)
            self.assert_read(text)

    def test_bad_ahead_of_too_large(self):
        for text in ["40.>.>", "41.>.>", "2(40.))", "40(40.)>", "(40.|40.", "|".join("." * 60) + ")", ">".join("." * 60) + "x"]:
            with self.assertRaises(BadShape):
                read_shape(text)
        assert_error(self, BadShape(120), read_shape, "|".join("." * 60) + ">")
        assert_error(self, BadShape(119), read_shape, "|".join("." * 60) + "x")
        assert_error(self, BadShape(6), read_shape, "40.>.>")
        assert_error(self, BadShape(8), read_shape, "40(40.)>")

    def test_thousands_of_brackets(self):
        for many in (1000, 5000, 20000):
            self.assertEqual(read_shape("(" * many + "." + ")" * many), ((),))
            assert_error(self, BadShape(2 * many), read_shape, "(" * many + "." + ")" * (many - 1))
            assert_error(self, BadShape(2 * many + 1), read_shape, "(" * many + "." + ")" * (many + 1))
            assert_error(self, BadShape(many), read_shape, "(" * many)
            assert_error(self, BadShape(many), read_shape, "(" * many + ")" * many)
        self.assertEqual(read_shape("1(" * 3000 + "2." + ")" * 3000), LINE[:2])
        self.assertEqual(read_shape("(.|" * 39 + "." + ")" * 39), APART)
        self.assertEqual(read_shape("(.>" * 39 + "." + ")" * 39), LINE)
        assert_error(self, TooLarge(40), read_shape, "2(" * 3000 + "." + ")" * 3000)
        assert_error(self, TooLarge(40), read_shape, "40(" * 1000 + "." + ")" * 1000)
        assert_error(self, TooLarge(40), read_shape, "(.>" * 3000 + "." + ")" * 3000)
        assert_error(self, BadShape(12000), read_shape, "(.>" * 3000 + "." + ")" * 2999)

    def test_things_of_every_kind(self):
        for thing in things():
            if type(thing) is not str:
                assert_error(self, BadShape(-1), read_shape, thing)
            else:
                self.assert_read(thing)


class Shapes(Cases):
    def assert_shape(self, plan):
        """Hold the shape of a plan and the bar to it against one another; return the shape."""
        text = plan_shape(plan)
        found = bar(plan)
        if text is None:
            self.assertTrue(plan == () or found is not None)
            return text
        self.assertIs(type(text), str)
        self.assertIsNone(found)
        other = read_shape(text)
        self.assertEqual(len(other), len(plan))
        self.assertEqual(sorted(ending(other)), sorted(ending(plan)))
        self.assertEqual(by_length(other), by_length(plan))
        if len(plan) <= 9:
            self.assertIsNotNone(sameness(other, plan))
        return text

    def test_ordinary(self):
        self.assertIsNone(plan_shape(()))
        self.assertIsNone(plan_shape(BARRED))
        for plan in [((),), APART, LINE, ((), (0,), (0,)), ((), (), (0, 1))]:
            self.assert_shape(plan)
            self.assertIsNotNone(plan_shape(plan))
        self.assertEqual(read_shape(plan_shape(((), (0,), (0,)))), ((), (0,), (0,)))

    def test_all_plans_of_few_items(self):
        for many in range(6):
            for plan in all_plans(many):
                self.assert_shape(plan)

    def test_drawn_plans(self):
        told = set()
        for plan in plainly.drawn_plans(523, 150, 9) + plainly.drawn_plans(524, 60, 40):
            told.add(self.assert_shape(plan) is None)
        self.assertEqual(told, {True, False})

    def test_shapes_with_other_numbers(self):
        draw = random.Random(525)
        for items in list(range(1, 41)) * 3:
            text = drawn_shape(draw, items)
            plan = plainly.shuffled(draw, read_shape(text))
            found = self.assert_shape(plan)
            self.assertIsNotNone(found)
            self.assertTrue(same_shapes(read_shape(found), plan))
            # One sight less or more may leave no shape.
            if items > 3:
                rows = [list(row) for row in plan]
                item = draw.randrange(1, items)
                rows[item].append(draw.randrange(item))
                self.assert_shape(plainly.closure(rows))

    def test_larger_plans_with_a_bar(self):
        draw = random.Random(526)
        for items in range(1, 37):
            for put in (behind, beside):
                for plan in [put(BARRED, read_shape(drawn_shape(draw, items))), put(read_shape(drawn_shape(draw, items)), BARRED)]:
                    plan = plainly.shuffled(draw, plan)
                    self.assertIsNone(plan_shape(plan))
                    self.assertIsNotNone(bar(plan))


def same_shapes(one, other):
    """Whether two plans are the same but for the numbers of their items, the one with a shape: part by part."""
    if len(one) != len(other) or chains(one) != chains(other):
        return False
    if len(one) <= 1:
        return True
    for joined in (True, False):
        parts = [parts_of(plan, joined) for plan in (one, other)]
        if len(parts[0]) > 1:
            if len(parts[0]) != len(parts[1]):
                return False
            if joined:
                left = list(parts[1])
                for part in parts[0]:
                    twin = next((twin for twin in left if same_shapes(part, twin)), None)
                    if twin is None:
                        return False
                    left.remove(twin)
                return True
            return all(same_shapes(part, twin) for part, twin in zip(*parts))
    return False


def parts_of(plan, joined):
    """The plans of the parts in which two items are joined by a sight, or by none."""
    reached, parts = set(), []
    for start in range(len(plan)):
        if start not in reached:
            waiting, found = [start], {start}
            while waiting:
                item = waiting.pop()
                for other in range(len(plan)):
                    near = (item in plan[other] or other in plan[item]) == joined
                    if other != item and near and other not in found:
                        found.add(other)
                        waiting.append(other)
            reached |= found
            items = sorted(found)
            parts.append(tuple(tuple(items.index(seen) for seen in plan[item] if seen in found) for item in items))
    return parts


class Bar(unittest.TestCase):
    def plain_bar(self, plan):
        """All fours tried."""
        for four in itertools.permutations(range(len(plan)), 4):
            a, b, c, d = four
            sights = {(one, other) for one in four for other in four if other in plan[one]}
            if sights == {(b, a), (b, c), (d, c)}:
                return four
        return None

    def test_ordinary(self):
        self.assertEqual(bar(BARRED), (0, 2, 1, 3))
        for plan in [(), ((),), LINE, APART, ((), (0,), (0,)), ((), (), (0, 1), (0, 1))]:
            self.assertIsNone(bar(plan))

    def test_all_fours_of_small_plans(self):
        for many in range(6):
            for plan in all_plans(many):
                self.assertEqual(bar(plan), self.plain_bar(plan))

    def test_all_fours_of_drawn_plans(self):
        told = set()
        for plan in plainly.drawn_plans(527, 120, 11) + [plainly.drawn_plans(528, 1, 18)[0]]:
            found = bar(plan)
            self.assertTrue(strange.same(found, self.plain_bar(plan)))
            told.add(found is None)
        self.assertEqual(told, {True, False})

    def test_the_least_one(self):
        twice = beside(BARRED, BARRED)
        self.assertEqual(bar(twice), (0, 2, 1, 3))
        self.assertEqual(bar(behind(LINE[:5], BARRED)), (5, 7, 6, 8))
        self.assertEqual(bar(beside(APART[:36], BARRED)), (36, 38, 37, 39))
        self.assertEqual(bar(((), (), (0,), (0, 1))), (1, 3, 0, 2))
        self.assertEqual(bar(((), (), (0,), (0, 1), (1,), (1,))), (0, 3, 1, 4))

    def test_tenth_fact(self):
        plans = [plan for many in range(1, 6) for plan in all_plans(many)] + plainly.drawn_plans(529, 100, 40)
        for plan in plans:
            if plan != ():
                self.assertIs(bar(plan) is None, plan_shape(plan) is not None)
                if plan_shape(plan) is not None and len(plan) <= 7:
                    other = read_shape(plan_shape(plan))
                    self.assertIs(is_sameness(plan, other, sameness(plan, other)), True)


if __name__ == "__main__":
    unittest.main()
