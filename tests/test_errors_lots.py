"""Which error each call about lots, webs, growth and ties raises [12 to 15], whatever is passed, and which first."""

import itertools
import unittest

from putbetween.errors import NoGrowth, NoKind, NoKinds, NoName, NoNumber, NoPlan, NoRun, TooMany
from putbetween.growth import gaps, is_double, needed, speed
from putbetween.lots import is_lot_foe, lot_faulty, lot_foe, lot_names, lot_played, lots_needed, many_lots
from putbetween.ties import tie_names, tie_played, tie_standing, tie_told
from putbetween.webs import is_web_foe, many_webs, web_faulty, web_foe, web_names, web_played, webs_needed
from tests import plainly, strange_marks, strange_ties
from tests.strange_marks import Lots, Webs, right_namer
from tests.wrong import assert_error, things, with_things

THREE = ((), (0,), (0, 1))
FORK = ((), (0,), (0,))
APART = ((),) * 40
LINE = tuple(tuple(range(item)) for item in range(40))
PLANS = [(), ((),), THREE, FORK, APART]
LOTS_5000 = APART[:4] + ((0, 1, 2, 3),) * 4 + ((0,),) * 3
LOTS_5001 = ((), (), (1,), (1, 2), (0, 1), (0, 1, 2, 3, 4), (0, 1, 2), (0, 1, 2, 3, 4), (0, 1, 2, 3, 4))

LOTS = Lots()
NAMER = right_namer(LOTS, range(40))
TABLE = LOTS.table


def is_number(least, most, thing):
    return type(thing) is int and least <= thing <= most


def never(*_):
    """A stranger that may not be called."""
    raise AssertionError("called")


class LotRuns(unittest.TestCase):
    def test_runs_of_every_kind(self):
        for plan in PLANS:
            for good in [(), (0,), (0, 0, 0), (0, 1, 2), (0, 1, 1)]:
                for thing in with_things(good):
                    if LOTS.is_run(plan, thing):
                        self.assertEqual(len(lot_names(plan, thing)), len(plan))
                        self.assertEqual(lot_played(plan, thing, NAMER, TABLE)[0], "done")
                    else:
                        assert_error(self, NoRun(), lot_names, plan, thing)
                        assert_error(self, NoRun(), lot_played, plan, thing, never, never)

    def test_founders(self):
        for run in [(0, 0, 1), (0, 2, 2), (1, 1, 1), (0, 1, -1), (0, None, 2), (0, 1), (0, 1, 2, 3), [0, 1, 2],
                    (0, 1, True), (False, 1, 2), (0, True, 2), (0, 1, "2"), (0, 1, (2,)), "012", {0: 0, 1: 1, 2: 2}]:
            assert_error(self, NoRun(), lot_names, THREE, run)
            assert_error(self, NoRun(), lot_played, THREE, run, never, never)
        assert_error(self, NoRun(), lot_names, FORK, (0, 1, 1))

    def test_5000_runs_and_more(self):
        right = right_namer(LOTS, range(40))
        self.assertEqual(many_lots(LOTS_5000), 5000)
        self.assertEqual(len(LOTS.runs(LOTS_5001)), 5001)
        self.assertIsNone(lot_faulty(LOTS_5000, right, TABLE))
        for plan in (LOTS_5001, LINE[:9], LINE, ((),) * 20 + LINE[:20]):
            assert_error(self, TooMany(5000), many_lots, plan)
            assert_error(self, TooMany(5000), lot_faulty, plan, never, never)
        self.assertEqual(many_lots(APART), 1)
        self.assertEqual(many_lots(APART[:39] + (tuple(range(39)),)), 40)

    def test_any_number_of_names(self):
        # 34 items in a line need 595 names, and all together do not.
        for plan in (LINE[:34] + APART[:5], LINE[:34] + APART[:6], LINE):
            self.assertEqual(lots_needed(plan), {39: 600, 40: 601}[len(plan)] if plan != LINE else 820)
            found = lot_foe(plan, NAMER, TABLE)
            self.assertEqual((found[0], len(found[1])), ("names", lots_needed(plan)))
            self.assertIs(is_lot_foe(plan, NAMER, TABLE, found), True)
            self.assertIs(is_lot_foe(plan, NAMER, TABLE, ("names", found[1][1:])), False)
            self.assertIs(is_lot_foe(plan, never, never, None), False)
            fault = ("fault", (0,) + tuple(range(1, len(plan))), ("name", len(plan) - 1))
            late = lambda told, item, view, founder: item if item < len(plan) - 1 else None
            self.assertIs(is_lot_foe(plan, late, lambda one, other: False, fault), True)


class WebRuns(unittest.TestCase):
    def test_kinds_of_every_kind(self):
        for thing in things() + [-1, 5, 6]:
            for plan in PLANS:
                if is_number(1, 5, thing):
                    self.assertEqual(webs_needed(plan, thing), sum(thing ** len(row) for row in plan))
                    self.assertIs(is_web_foe(plan, thing, never, never, None), False)
                    continue
                for function in (webs_needed, many_webs):
                    assert_error(self, NoKinds(), function, plan, thing)
                    assert_error(self, NoPlan(), function, [], thing)
                for function, arguments in [
                    (web_names, (None,)), (web_played, (None, never, never)), (web_faulty, (never, never)),
                    (web_foe, (never, never)), (is_web_foe, (never, never, None)), (web_names, (((),) * len(plan),)),
                ]:
                    assert_error(self, NoKinds(), function, plan, thing, *arguments)
                    assert_error(self, NoKinds(), function, LINE, thing, *arguments)
                    assert_error(self, NoPlan(), function, [], thing, *arguments)

    def test_kinds_at_the_edges(self):
        for kinds in (1, 5):
            self.assertEqual(webs_needed(THREE, kinds), 1 + kinds + kinds * kinds)
            self.assertEqual(many_webs(THREE, kinds), kinds ** 3)
            self.assertEqual(web_names(THREE, kinds, ((), (0,), (0, kinds - 1)))[2], (2, ((0, 0), (1, kinds - 1))))
            assert_error(self, NoRun(), web_names, THREE, kinds, ((), (0,), (0, kinds)))
            assert_error(self, NoRun(), web_names, THREE, kinds, ((), (0,), (0, -1)))
        for kinds in (0, 6, -1, True, None, "2", (2,)):
            assert_error(self, NoKinds(), webs_needed, THREE, kinds)
            assert_error(self, NoKinds(), web_names, THREE, kinds, None)
            assert_error(self, NoKinds(), web_faulty, LINE, kinds, never, never)
            assert_error(self, NoKinds(), web_foe, LINE, kinds, never, never)
            assert_error(self, NoKinds(), is_web_foe, LINE, kinds, never, never, None)

    def test_runs_of_every_kind(self):
        for kinds in (1, 2, 5):
            document = Webs(kinds)
            right = right_namer(document, range(40))
            for plan in PLANS:
                for good in [(), ((),), ((), (0,), (0, 0)), ((), (1,), (0, 1)), ((), (0,), (4,))]:
                    for thing in with_things(good):
                        if document.is_run(plan, thing):
                            self.assertEqual(len(web_names(plan, kinds, thing)), len(plan))
                            self.assertEqual(web_played(plan, kinds, thing, right, document.table)[0], "done")
                        else:
                            assert_error(self, NoRun(), web_names, plan, kinds, thing)
                            assert_error(self, NoRun(), web_played, plan, kinds, thing, never, never)

    def test_ties(self):
        for run in [((), (0,), (0,)), ((), (0,), (0, 0, 0)), ((0,), (0,), (0, 0)), ((), (), (0, 0)), ((), (0,)),
                    ((), (0,), (0, 0), ()), ((), (True,), (0, 0)), ((), (0,), (0, False)), ((), [0], (0, 0)), ((), 0, (0, 0)),
                    [(), (0,), (0, 0)], ((), (2,), (0, 0)), ((), (0,), (0, None)), ((), ((0, 0),), ((0, 0), (1, 0)))]:
            assert_error(self, NoRun(), web_names, THREE, 2, run)
            assert_error(self, NoRun(), web_played, THREE, 2, run, never, never)

    def test_5000_runs_and_more(self):
        for kinds, pairs in [(2, 12), (3, 7), (4, 6), (5, 5)]:
            document = Webs(kinds)
            right = right_namer(document, range(40))
            plan = APART[:4] + ((0, 1, 2),) * (pairs // 3) + ((0,),) * (pairs % 3)
            self.assertLessEqual(many_webs(plan, kinds), 5000)
            self.assertIsNone(web_faulty(plan, kinds, right, document.table))
            self.assertGreater(many_webs(plan + ((0,),), kinds), 5000)
            assert_error(self, TooMany(5000), web_faulty, plan + ((0,),), kinds, never, never)
            assert_error(self, TooMany(5000), web_faulty, LINE, kinds, never, never)
        self.assertIsNone(web_faulty(LINE, 1, right_namer(Webs(1), range(40)), Webs(1).table))

    def test_600_names_and_601(self):
        nine = tuple(range(9))
        for kinds, plan in [
            (2, APART[:9] + (nine, nine[:6], nine[:3], nine[:2], nine[:1], ())),
            (5, APART[:3] + ((0, 1, 2),) * 4 + ((0, 1),) * 3 + ((2,),) * 4 + ((),) * 2),
            (3, APART[:5] + ((0, 1, 2, 3, 4),) * 2 + ((0, 1, 2, 3),) + ((0, 1),) * 2 + ((4,),) * 3 + ((),)),
        ]:
            document = Webs(kinds)
            right = right_namer(document, range(40))
            self.assertEqual(webs_needed(plan, kinds), 600)
            found = web_foe(plan, kinds, right, document.table)
            self.assertEqual((found[0], len(found[1])), ("names", 600))
            self.assertIs(is_web_foe(plan, kinds, right, document.table, found), True)
            larger = plan + ((),)
            for many in (larger, LINE):
                assert_error(self, TooMany(600), web_foe, many, kinds, never, never)
                self.assertIs(is_web_foe(many, kinds, right, document.table, found), False)
                self.assertIs(is_web_foe(many, kinds, never, never, None), False)
            last = len(plan)
            rows = [(run + ((),), item) for run, item in found[1]]
            rows.append((rows[0][0], last))
            self.assertIs(is_web_foe(larger, kinds, right, document.table, ("names", rows)), True)
            self.assertIs(is_web_foe(larger, kinds, right, document.table, ("names", rows[1:])), False)

    def test_a_fault_in_a_plan_with_many_names(self):
        run = tuple((1,) * item for item in range(40))
        fault = ("fault", run, ("name", 39))
        late = lambda plan, item, view, ties: item if item < 39 else None
        self.assertIs(is_web_foe(LINE, 2, late, lambda one, other: 1, fault), True)
        self.assertIs(is_web_foe(LINE, 2, late, lambda one, other: 0, fault), False)


class Growths(unittest.TestCase):
    def assert_judged(self, growth):
        """Hold that the functions take just what the document calls a growth."""
        if is_growth(growth):
            for kind in growth:
                self.assertGreaterEqual(needed(growth, kind, 3), 1)
                self.assertIn(speed(growth, kind)[0], ("power", "double"))
        else:
            for kind, many in [("a", 3), (None, None), ("", -1)]:
                assert_error(self, NoGrowth(), needed, growth, kind, many)
                assert_error(self, NoGrowth(), gaps, growth, kind, many)
                assert_error(self, NoGrowth(), speed, growth, kind)
                assert_error(self, NoGrowth(), is_double, growth, kind, many)

    def test_things_of_every_kind(self):
        for thing in things():
            self.assert_judged(thing)
            self.assert_judged({"a": thing})
            self.assert_judged({"a": (), "b": thing})
            self.assert_judged({"a": (thing,)})
            self.assert_judged({"a": ("a", thing, "a")})
            if type(thing) not in (list, dict, bytearray, slice) and is_key(thing):
                self.assert_judged({thing: ()})
                self.assert_judged({"a": (), thing: ("a",)})
                self.assert_judged({thing: (thing,)})

    def test_1_kind_and_12(self):
        kinds = ["a", "b", "c", "d", "e", "f", "g", "h", "i", "j", "k", "l", "m"]
        for many in range(14):
            growth = {kind: ("a",) for kind in kinds[:many]}
            self.assertIs(is_growth(growth), 1 <= many <= 12)
            self.assert_judged(growth)

    def test_kinds_of_1_letter_and_8(self):
        for kind in ["a", "z", "abcdefgh", "zzzzzzzz"]:
            self.assertEqual(needed({kind: (kind, kind)}, kind, 2), 3)
        for kind in ["", "abcdefghi", "A", "aB", "a1", "1", "a b", " a", "a ", "a-b", "{", "`", "a{", "a\n", "\t"]:
            self.assert_judged({kind: ()})
            self.assert_judged({"a": (), kind: ("a",)})
            assert_error(self, NoGrowth(), needed, {kind: ()}, kind, 2)

    def test_tuples_of_4_kinds_and_5(self):
        self.assertEqual(needed({"a": ("a",) * 4}, "a", 2), 5)
        for row in [("a",) * 5, ("b",), ("a", "b"), ["a"], "a", "aa", {"a": "a"}, None, ("A",), ("",), (None,), (("a",),)]:
            assert_error(self, NoGrowth(), needed, {"a": row}, "a", 2)
            assert_error(self, NoGrowth(), speed, {"a": row}, "a")
            assert_error(self, NoGrowth(), gaps, {"a": (), "c": row}, "a", 2)

    def test_which_error_comes_first(self):
        growth = {"a": ("a", "bb"), "bb": ()}
        for thing in things() + ["b", "A", "bbb", "ab", ""]:
            if thing in ("a", "bb") and type(thing) is str:
                continue
            assert_error(self, NoKind(), needed, growth, thing, None)
            assert_error(self, NoKind(), needed, growth, thing, 3)
            assert_error(self, NoKind(), gaps, growth, thing, None)
            assert_error(self, NoKind(), speed, growth, thing)
            assert_error(self, NoKind(), is_double, growth, thing, thing)

    def test_many_from_0_to_200(self):
        growth = {"a": ("a", "bb"), "bb": ()}
        for thing in things() + [199, 200, 201]:
            if is_number(0, 200, thing):
                self.assertEqual(needed(growth, "a", thing), max(0, 2 * thing - 1))
                self.assertEqual(gaps(growth, "a", thing), {"a": 1, "bb": min(1, thing)})
            else:
                assert_error(self, NoNumber(), needed, growth, "a", thing)
                assert_error(self, NoNumber(), gaps, growth, "a", thing)


def is_key(thing):
    try:
        hash(thing)
    except (TypeError, ValueError):
        return False
    return True


def is_growth(thing):
    if type(thing) is not dict or not 1 <= len(thing) <= 12:
        return False
    for kind, row in thing.items():
        if type(kind) is not str or not 1 <= len(kind) <= 8 or not all("a" <= sign <= "z" for sign in kind):
            return False
        if type(row) is not tuple or len(row) > 4:
            return False
        if not all(type(left) is str and left in thing for left in row):
            return False
    return True


class Ties(unittest.TestCase):
    def test_runs_of_every_kind(self):
        right, table = strange_ties.right_namer(range(40)), strange_ties.right_table
        for plan in PLANS:
            for good in [(), (("gap", 0),), (("gap", 0), ("tie", 0), ("gap", 1)), (("gap", 0), ("gap", 1), ("tie", 1)),
                         (("gap", 0), ("gap", 0), ("gap", 2)), (("gap", 0), ("tie", 0), ("tie", 0))]:
                for thing in with_things(good):
                    if strange_ties.is_run(plan, thing):
                        self.assertEqual(len(tie_names(plan, thing)), len(plan))
                        self.assertEqual(tie_played(plan, thing, right, table)[2], tie_standing(plan, thing))
                    else:
                        assert_error(self, NoRun(), tie_names, plan, thing)
                        assert_error(self, NoRun(), tie_standing, plan, thing)
                        assert_error(self, NoRun(), tie_played, plan, thing, never, never)

    def assert_no_run(self, plan, run):
        assert_error(self, NoRun(), tie_names, plan, run)
        assert_error(self, NoRun(), tie_standing, plan, run)
        assert_error(self, NoRun(), tie_played, plan, run, never, never)

    def test_places(self):
        gap, tie = ("gap", 0), ("tie", 0)
        for place in [("gap", -1), ("gap", 2), ("tie", 1), ("tie", 2), ("tie", -1), ("tie", None), ("gap", None), ("tie", 3),
                      ("gap", True), ("gap", False), ("tie", False), ["gap", 0], ("gap",), ("gap", 0, 0), ("Gap", 0), ("", 0),
                      (b"gap", 0), ("ties", 0), (0, "gap"), (None, 0), "gap", 0, None, (), ("gap", (0,)), ("gap", "0")]:
            self.assert_no_run(FORK, (gap, tie, place))
            self.assert_no_run(FORK, (gap, gap, place))
        for run in [(gap, tie), (gap, tie, tie, tie), [gap, tie, tie], (tie, gap, gap), (("gap", 1), gap, gap)]:
            self.assert_no_run(FORK, run)

    def test_as_many_gaps_as_groups(self):
        gap, tie = ("gap", 0), ("tie", 0)
        for begun, groups in [
            ((gap, tie, tie), 1), ((gap, tie, ("tie", 1)), 1), ((gap, gap, tie), 2), ((gap, gap, ("tie", 1)), 2),
            ((gap, ("gap", 1), ("gap", 2)), 3), ((gap, tie, gap), 2), ((gap, tie, ("gap", 1)), 2),
        ]:
            for number in range(groups + 1):
                self.assertEqual(len(tie_standing(LINE[:4], begun + (("gap", number),))), groups + 1)
            self.assert_no_run(LINE[:4], begun + (("gap", groups + 1),))
            self.assert_no_run(LINE[:4], begun + (("gap", -1),))
        # Groups of what the item has seen alone: 1 and 2 are seen, and tied by way of 0.
        plan = ((), (0,), (0,), (), (0, 1, 2))
        self.assert_no_run(plan, (gap, tie, tie, gap, ("gap", 2)))
        self.assert_no_run(plan, (gap, tie, tie, gap, ("tie", 3)))
        self.assertEqual(tie_standing(plan, (gap, tie, tie, gap, ("gap", 1))), ((3,), (0, 1, 2), (4,)))

    def test_names_of_every_kind(self):
        other = ((38,), 39)
        for good in [((0,), None), ((0, 1), 2), ((0, 2, 39), None)]:
            for thing in with_things(good):
                if strange_ties.is_name(thing):
                    self.assertIn(tie_told(thing, other), strange_ties.WORDS)
                    self.assertIn(tie_told(other, thing), strange_ties.WORDS)
                    assert_error(self, NoName(), tie_told, thing, thing)
                else:
                    assert_error(self, NoName(), tie_told, thing, other)
                    assert_error(self, NoName(), tie_told, other, thing)
                    assert_error(self, NoName(), tie_told, thing, None)

    def test_names_at_the_edges(self):
        other = ((0,), None)
        whole = tuple(range(40))
        for name in [((39,), None), ((38,), 39), ((0,), 39), ((0,), 1), (whole, None), (whole[:39], 39)]:
            self.assertIn(tie_told(name, other), strange_ties.WORDS)
            self.assertIn(tie_told(other, name), strange_ties.WORDS)
            assert_error(self, NoName(), tie_told, name, (tuple(list(name[0])), name[1]))
        for name in [((40,), None), ((0,), 40), ((39,), 40), ((39,), 39), ((39,), 38), ((1,), 1), ((1,), 0), ((0,), 0),
                     ((0,), -1), ((-1,), None), ((), None), ((), 1), ((0, 0), None), ((1, 0), None), ((0, 1), 1), ((0,), True),
                     ((False,), None), ((0,), False), ([0], None), [(0,), None], ((0,),), ((0,), None, None), (0, None),
                     ((0,), "1"), ((0,), (1,)), (None, None), ((None,), None), (whole + (40,), None), (whole, 40), "", None]:
            assert_error(self, NoName(), tie_told, name, other)
            assert_error(self, NoName(), tie_told, other, name)
            assert_error(self, NoName(), tie_told, name, name)

    def test_two_equal_names(self):
        named = [((0,), None), ((1,), None), ((0, 1), None), ((0,), 1), ((0,), 2), ((0, 1), 2)]
        for one, other in itertools.product(named, repeat=2):
            if one == other:
                assert_error(self, NoName(), tie_told, one, other)
            else:
                self.assertIn(tie_told(one, other), strange_ties.WORDS)


if __name__ == "__main__":
    unittest.main()
