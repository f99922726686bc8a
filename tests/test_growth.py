"""Growth [14]: gaps of kinds, the names that they need, and how fast these become more."""

import itertools
import math
import random
import unittest

from putbetween.growth import gaps, is_double, needed, speed
from putbetween.stocks import stocks
from tests.wrong import things, with_things

TWO = {"a": ("a", "a")}
# For each growth and kind the degree, or "double".
SPEEDS = [
    ({"a": ()}, "a", 0),
    ({"a": ("b",), "b": ("c", "c"), "c": ()}, "a", 0),
    ({"a": ("a",)}, "a", 1),
    ({"a": ("b",), "b": ("c",), "c": ("a",)}, "b", 1),
    ({"a": ("a", "b"), "b": ("b",)}, "a", 2),
    ({"a": ("a", "b"), "b": ("b",)}, "b", 1),
    ({"a": ("a", "b", "b", "b"), "b": ("b",)}, "a", 2),
    ({"a": ("a", "b", "c"), "b": ("b",), "c": ("c",)}, "a", 2),
    ({"a": ("b", "c"), "b": ("b",), "c": ("c",)}, "a", 1),
    ({"a": ("b", "d"), "b": ("a", "c"), "c": ("d",), "d": ("e",), "e": ("d", "f"), "f": ("f",)}, "a", 3),
    ({"a": ("b",), "b": ("a", "c"), "c": ("d",), "d": ("e",), "e": ("c",)}, "a", 2),
    ({"x": ("a", "y"), "a": ("b",), "b": ("b",), "y": ()}, "x", 1),
    ({"x": ("x", "x"), "a": ("b", "c"), "b": ("b",), "c": ("c", "b")}, "a", 2),
    ({"x": ("a",), "a": ("x", "b"), "b": ("b", "b")}, "x", "double"),
    (TWO, "a", "double"),
    ({"a": ("b", "c"), "b": ("a",), "c": ("a",)}, "a", "double"),
    ({"a": ("b", "c"), "b": ("a",), "c": ("a",)}, "b", "double"),
    ({"a": ("b", "b"), "b": ("a",)}, "a", "double"),
    ({"a": ("b", "b"), "b": ("a",)}, "b", "double"),
    ({"a": ("b",), "b": ("c",), "c": ("d",), "d": ("d", "e"), "e": ("f",), "f": ("d",)}, "a", "double"),
    ({"a": ("b", "c"), "b": ("a", "a"), "c": ("b",)}, "c", "double"),
    ({"abcdefgh": ("z", "abcdefgh"), "z": ("abcdefgh",)}, "z", "double"),
]


def row_of(many):
    """A growth of so many kinds, each of which leaves itself and the next one."""
    kinds = "abcdefghijkl"[:many]
    return {kind: (kind,) + tuple(kinds[at + 1:at + 2]) for at, kind in enumerate(kinds)}


def plain_needed(growth, kind, many):
    """What is needed by the words of the document."""
    if many == 0:
        return 0
    return 1 + sum(plain_needed(growth, left, many - 1) for left in growth[kind])


def great_needed(growth, kind, many):
    """The same for great numbers."""
    needs = dict.fromkeys(growth, 0)
    for _ in range(many):
        needs = {one: 1 + sum(needs[left] for left in growth[one]) for one in growth}
    return needs[kind]


def plain_gaps(growth, kind, many):
    """The gaps, one by one, behind so many rounds."""
    row = [kind]
    for _ in range(many):
        row = [left for one in row for left in growth[one]]
    return row


def gathered(growth, kind, many):
    """How many names so many items get, all ways of putting them in together: the ways to each gap are told in full."""
    ways, found = [((), kind)], set()
    for item in range(many):
        found.update((item, way) for way, _ in ways)
        ways = [(way + (at,), left) for way, one in ways for at, left in enumerate(growth[one])]
    return len(found)


def drawn_growth(draw):
    kinds = draw.sample(["a", "b", "cc", "xyz", "q", "abcdefgh", "zzzzzzzz", "k", "l", "m", "n", "o"], draw.randrange(1, 13))
    most = draw.choice([1, 2, 2, 4])
    return {kind: tuple(draw.choice(kinds) for _ in range(draw.randrange(most + 1))) for kind in kinds}


def thin_growth(draw):
    """A growth most of whose steps lead on, so that it has some circles one behind another."""
    kinds = ["a", "b", "c", "d", "e", "f", "g", "h", "i", "j", "k", "l"][:draw.randrange(1, 13)]
    growth = {}
    for at, kind in enumerate(kinds):
        left = draw.choices(kinds[at + 1:] or kinds[:1], k=draw.randrange(3))
        if draw.randrange(3) == 0:
            left.append(draw.choice(kinds[max(0, at - 2):at + 1]))
        growth[kind] = tuple(left)
    return growth


def drawn_growths(seed, many):
    draw = random.Random(seed)
    return [draw.choice([drawn_growth, thin_growth])(draw) for _ in range(many)]


def end_of(growth, kind, route):
    """Where a route leads, or None."""
    for step in route:
        if type(step) is not tuple or len(step) != 2 or type(step[1]) is not int or step[1] < 0:
            return None
        if step[0] != kind or step[1] >= len(growth[kind]):
            return None
        kind = growth[kind][step[1]]
    return kind


def plain_double(growth, kind, thing):
    """14.2: whether a thing is such a tuple of four."""
    if type(thing) is not tuple or len(thing) != 4 or type(thing[0]) is not str or thing[0] != "double":
        return False
    there, one, other = thing[1:]
    if not all(type(route) is tuple for route in (there, one, other)) or one == () or other == ():
        return False
    turn = end_of(growth, kind, there)
    if turn is None or end_of(growth, turn, one) != turn or end_of(growth, turn, other) != turn:
        return False
    return one[:len(other)] != other and other[:len(one)] != one


class Needed(unittest.TestCase):
    def test_ordinary(self):
        self.assertEqual(needed(TWO, "a", 3), 7)
        self.assertEqual([needed({"a": ("a", "b"), "b": ()}, "a", many) for many in range(6)], [0, 1, 3, 5, 7, 9])
        self.assertEqual([needed({"a": ("b",), "b": ()}, "a", many) for many in range(4)], [0, 1, 2, 2])
        self.assertEqual(needed({"a": ("a", "a", "a", "a")}, "a", 200), (4 ** 200 - 1) // 3)

    def test_two_gaps_in_the_place_of_one(self):
        # Of items each of which has seen all others, the chains are as many.
        for many in range(201):
            self.assertEqual(needed(TWO, "a", many), 2 ** many - 1)
        for many in range(1, 12):
            self.assertEqual(stocks(tuple(tuple(range(item)) for item in range(many)), (0,) * many), (2 ** many - 1,))

    def test_by_its_own_sum(self):
        for growth in drawn_growths(301, 150) + [growth for growth, _, _ in SPEEDS]:
            for kind in growth:
                for many in range(6):
                    self.assertEqual(needed(growth, kind, many), plain_needed(growth, kind, many))
                self.assertEqual(needed(growth, kind, 200), great_needed(growth, kind, 200))

    def test_by_gathering_all_names(self):
        for growth in drawn_growths(302, 60):
            for kind in growth:
                for many in range(6):
                    self.assertEqual(needed(growth, kind, many), gathered(growth, kind, many))

    def test_the_sum_of_all_gaps(self):
        for growth in drawn_growths(303, 60) + [row_of(12), TWO]:
            for kind in growth:
                total = 0
                for many in range(30):
                    self.assertEqual(needed(growth, kind, many), total)
                    total += sum(gaps(growth, kind, many).values())
        for growth in [row_of(12), TWO, {"a": ("b", "b"), "b": ("a",)}]:
            total = sum(sum(gaps(growth, "a", many).values()) for many in range(200))
            self.assertEqual(needed(growth, "a", 200), total)


class Gaps(unittest.TestCase):
    def test_ordinary(self):
        self.assertEqual(gaps(TWO, "a", 0), {"a": 1})
        self.assertEqual(gaps(TWO, "a", 5), {"a": 32})
        growth = {"a": ("a", "b"), "b": ("c",), "c": ()}
        self.assertEqual(gaps(growth, "a", 0), {"a": 1, "b": 0, "c": 0})
        self.assertEqual(gaps(growth, "a", 1), {"a": 1, "b": 1, "c": 0})
        self.assertEqual(gaps(growth, "a", 2), {"a": 1, "b": 1, "c": 1})
        self.assertEqual(gaps(growth, "b", 1), {"a": 0, "b": 0, "c": 1})
        self.assertEqual(gaps(growth, "b", 2), {"a": 0, "b": 0, "c": 0})
        self.assertEqual(gaps({"a": ("a", "a", "a", "a")}, "a", 200), {"a": 4 ** 200})

    def test_round_by_round(self):
        for growth in drawn_growths(304, 100):
            for kind in growth:
                for many in range(6):
                    row = plain_gaps(growth, kind, many)
                    found = gaps(growth, kind, many)
                    self.assertIs(type(found), dict)
                    self.assertEqual(found, {one: row.count(one) for one in growth})

    def test_new_dicts(self):
        growth = {"a": ("a", "b"), "b": ()}
        for many in (0, 3):
            found, other = gaps(growth, "a", many), gaps(growth, "a", many)
            self.assertEqual(found, other)
            found["c"] = 5
            found["a"] = 9
            self.assertEqual(gaps(growth, "a", many), other)
        self.assertEqual(growth, {"a": ("a", "b"), "b": ()})


class Speed(unittest.TestCase):
    def assert_speed(self, growth, kind, wanted=None):
        """Hold what is told of the speed against great numbers of names."""
        before = repr(growth)
        told = speed(growth, kind)
        self.assertIs(type(told), tuple)
        self.assertEqual(repr(growth), before)
        if told[0] == "double":
            self.assertTrue(plain_double(growth, kind, told), (growth, kind, told))
            self.assertIs(is_double(growth, kind, told), True)
            there, one, other = told[1:]
            longer = max(len(one), len(other))
            for many in (1, 10, 50, 199, 200):
                # Of each so many circles in a row each choice leads to another gap.
                self.assertGreaterEqual(needed(growth, kind, many), 2 ** max(0, (many - 1 - len(there)) // longer) - 1)
            self.assertGreater(great_needed(growth, kind, 2000), 2000 ** 13)
        else:
            self.assertEqual((told[0], len(told)), ("power", 2))
            self.assertIs(type(told[1]), int)
            twice = math.log2(great_needed(growth, kind, 2000)) - math.log2(great_needed(growth, kind, 1000))
            self.assertLess(abs(twice - told[1]), 0.5, (growth, kind, told))
        if wanted is not None:
            self.assertEqual(told[0] if wanted == "double" else told, wanted if wanted == "double" else ("power", wanted))
        return told

    def test_ordinary(self):
        self.assertEqual(speed({"a": ()}, "a"), ("power", 0))
        told = speed(TWO, "a")
        self.assertIn(told, [("double", (), (("a", 0),), (("a", 1),)), ("double", (), (("a", 1),), (("a", 0),))])
        for growth, kind, wanted in SPEEDS:
            self.assert_speed(growth, kind, wanted)

    def test_circles_one_behind_another(self):
        for many in range(1, 13):
            growth = row_of(many)
            for at, kind in enumerate(growth):
                self.assert_speed(growth, kind, many - at)
            last = list(growth)[-1]
            for kind in growth:
                self.assert_speed({**growth, last: (last, last)}, kind, "double")
                self.assert_speed({**growth, last: ()}, kind, len(growth) - 1 - list(growth).index(kind))

    def test_many_routes_to_one_circle(self):
        # That there are many ways to it does not make the degree greater, but for the circles on them.
        kinds = "abcdefghijkl"
        growth = {kind: tuple(kinds[at + 1:at + 5]) for at, kind in enumerate(kinds)}
        self.assert_speed(growth, "a", 0)
        self.assert_speed({**growth, "l": ("l",)}, "a", 1)
        self.assert_speed({**growth, "l": ("l",), "f": ("f", "g", "h", "i")}, "a", 2)
        self.assert_speed({kind: tuple(kinds[at + 1:at + 2] * 4) for at, kind in enumerate(kinds)}, "a", 0)
        self.assert_speed({**growth, "l": ("e",), "e": ("f",)}, "a", "double")
        self.assert_speed({kind: tuple(kinds[(at + 1) % 12:][:1]) for at, kind in enumerate(kinds)}, "a", 1)

    def test_drawn_growths(self):
        told = set()
        draw = random.Random(310)
        for growth in drawn_growths(305, 200):
            for kind in draw.sample(list(growth), min(len(growth), 3)):
                found = self.assert_speed(growth, kind)
                told.add(found[0] if found[0] == "double" else found[1])
        self.assertLessEqual({"double", 0, 1, 2, 3}, told)

    def test_two_kinds_in_all_ways(self):
        rows = [row for many in range(4) for row in itertools.combinations_with_replacement("ab", many)]
        for row, other in itertools.product(rows, repeat=2):
            self.assert_speed({"a": row, "b": other}, "a")

    def test_the_order_of_the_keys_means_nothing(self):
        draw = random.Random(306)
        for growth in drawn_growths(307, 60):
            keys = draw.sample(list(growth), len(growth))
            other = {kind: growth[kind] for kind in keys}
            for kind in growth:
                self.assertEqual(speed(growth, kind), speed(other, kind))
                self.assertEqual(gaps(growth, kind, 4), gaps(other, kind, 4))
                self.assertEqual(needed(growth, kind, 9), needed(other, kind, 9))


class IsDouble(unittest.TestCase):
    def assert_judged(self, growth, kind, thing):
        before = repr(thing)
        wanted = plain_double(growth, kind, thing)
        self.assertIs(is_double(growth, kind, thing), wanted, (growth, kind, thing))
        self.assertEqual(repr(thing), before)
        return wanted

    def test_changed_in_one_place(self):
        growth = {"a": ("b", "c"), "b": ("a",), "c": ("a",), "x": ("x", "a")}
        there, one, other = (("x", 1),), (("a", 0), ("b", 0)), (("a", 1), ("c", 0))
        self.assertIs(is_double(growth, "x", ("double", there, one, other)), True)
        self.assertIs(is_double(growth, "x", ("double", (("x", 0),) * 5 + there, one, other)), True)
        self.assertIs(is_double(growth, "x", ("double", there, other, one)), True)
        self.assertIs(is_double(growth, "a", ("double", (), other, one)), True)
        self.assertIs(is_double(growth, "a", ("double", one, other, one + other)), True)
        self.assertIs(is_double(growth, "b", ("double", (), (("b", 0), ("a", 0)), (("b", 0),) + other + (("a", 0),))), True)
        for thing in [
            ("double", (), one, other), ("double", there, one, one), ("double", there, (), other),
            ("double", there, one, ()), ("double", there, (), ()), ("double", there, one, one + other),
            ("double", there, one + other, one), ("double", there, one[:1], other), ("double", there, one, other[:1]),
            ("double", there, one, (("a", 1), ("c", 1))), ("double", there, one, (("a", 2), ("c", 0))),
            ("double", there, one, (("a", -1), ("c", 0))), ("double", there, one, (("a", True), ("c", 0))),
            ("double", there, (("a", False), ("b", 0)), other), ("double", (("x", True),), one, other),
            ("double", there, one, (["a", 1], ("c", 0))), ("double", there, one, [("a", 1), ("c", 0)]),
            ("double", there, list(one), other), ("double", list(there), one, other), ["double", there, one, other],
            ("double", there, one, (("a", 1, 0), ("c", 0))), ("double", there, one, (("a",), ("c", 0))),
            ("double", there, one, (("c", 0), ("a", 1))), ("double", there, one, (("b", 1), ("c", 0))),
            ("double", there, one, (("d", 1), ("c", 0))), ("double", there, one, (None, ("c", 0))),
            ("power", there, one, other), ("Double", there, one, other), (b"double", there, one, other),
            ("double", there, one, other, other), ("double", there, one), ("double", one, other), ("double",), (),
            ("double", (("x", 0),), one, other), ("double", there + one[:1], one, other), ("double", None, one, other),
            ("double", there, one, (("a", 1), ("c", "0"))), ("double", there, one, "ac"), ("power", 2), None, "double",
            {"double": there}, ("double", {}, one, other), ("double", (("a", 0),), one, other), (there, one, other),
        ]:
            self.assertIs(is_double(growth, "x", thing), False, thing)
            self.assert_judged(growth, "x", thing)

    def test_each_part_of_a_right_one(self):
        for growth, kind, wanted in SPEEDS:
            if wanted == "double":
                right = speed(growth, kind)
                told = [self.assert_judged(growth, kind, thing) for thing in with_things(right)]
                self.assertFalse(all(told))

    def test_none_where_the_speed_is_a_power(self):
        for growth, kind, wanted in SPEEDS:
            for other, one, told in SPEEDS:
                if told == "double":
                    self.assert_judged(growth, kind, speed(other, one))
            if wanted != "double":
                for steps in itertools.product([(one, at) for one in growth for at in range(2)], repeat=2):
                    for thing in [("double", (), steps, steps[::-1]), ("double", steps[:1], steps, steps[1:])]:
                        self.assertIs(self.assert_judged(growth, kind, thing), False)

    def test_drawn_routes(self):
        draw = random.Random(308)
        told = set()
        for growth in drawn_growths(309, 200):
            kind = draw.choice(sorted(growth))
            routes = []
            for start in growth:
                for _ in range(4):
                    route, at = (), start
                    for _ in range(draw.randrange(5)):
                        if growth[at]:
                            index = draw.randrange(len(growth[at]))
                            route += ((at, index),)
                            at = growth[at][index]
                    routes.append(route)
            for _ in range(60):
                told.add(self.assert_judged(growth, kind, ("double",) + tuple(draw.choices(routes, k=3))))
        self.assertEqual(told, {True, False})

    def test_things_of_every_kind(self):
        for thing in things() + [("double", thing, thing, thing) for thing in things()]:
            for growth, kind in [(TWO, "a"), ({"a": ()}, "a")]:
                self.assertIs(self.assert_judged(growth, kind, thing), False)


if __name__ == "__main__":
    unittest.main()
