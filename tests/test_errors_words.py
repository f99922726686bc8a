"""Which error each call about words, heaps and strangers raises [5, 6, 7], whatever is passed, and which comes first."""

import itertools
import unittest

from putbetween.errors import NoChain, NoHeap, NoPlan, NoRun, NoWord, OtherSize, TooLarge, TooMany
from putbetween.foes import foe, is_foe
from putbetween.heaps import heap_run, lacking, least_plan
from putbetween.playing import faulty, plain_namer, plain_table, played, rank_namer, rank_table
from putbetween.words import chain_of, word, words
from tests import plainly, strange
from tests.wrong import assert_error, things, with_things

THREE = ((), (0,), (0, 1))
FORK = ((), (0,), (0,))
APART = ((),) * 40
LINE = tuple(tuple(range(item)) for item in range(40))
PLANS = [(), ((),), THREE, FORK, APART[:26], LINE[:26]]
WHOLE = "zyxwvutsrqponmlkjihgfedcba"

BAD_TEXTS = [
    "", "yz", "xyz", "zz", "zyy", "Z", "zY", "Zy", " ", "z ", " z", "z y", "{", "z{", "{z", "~", "`", "z`", "A",
    "\n", "z\n", "\t", "zy\t", "0", "z0", "-", "w", "zw", "zyxw", "z,y",
]


def is_word(thing):
    if type(thing) is not str or not thing:
        return False
    return all("a" <= sign <= "z" for sign in thing) and list(thing) == sorted(set(thing), reverse=True)


def are_words(thing):
    return type(thing) in (list, tuple) and all(is_word(word) for word in thing)


def is_heap(thing):
    if not are_words(thing) or any(one[-1] == other[-1] for one, other in itertools.combinations(thing, 2)):
        return False
    return all(len(word) == 1 or word[:-1] in thing for word in thing)


class Words(unittest.TestCase):
    def test_chains_of_every_kind(self):
        for plan in PLANS:
            for good in [(0,), (0, 1), (0, 1, 2)]:
                for thing in with_things(good):
                    if plainly.is_chain(plan, thing):
                        self.assertEqual(word(plan, thing), "".join(WHOLE[item] for item in thing))
                    else:
                        assert_error(self, NoChain(), word, plan, thing)

    def test_texts_of_every_kind(self):
        for plan in PLANS:
            for thing in things() + BAD_TEXTS + [WHOLE, WHOLE[:25], WHOLE[1:], WHOLE + "a", WHOLE * 2, "z" * 9999]:
                chain = tuple(WHOLE.index(sign) for sign in thing) if is_word(thing) else None
                if chain is not None and plainly.is_chain(plan, chain):
                    self.assertEqual(chain_of(plan, thing), chain)
                else:
                    assert_error(self, NoWord(), chain_of, plan, thing)
        for thing in [("z",), ["z"], b"z", {"z": 0}, 0, (0,)]:
            assert_error(self, NoWord(), chain_of, THREE, thing)

    def test_runs_of_every_kind(self):
        for plan in PLANS:
            for good in [(), (0,), (0, 0, 1), (0,) * 26]:
                for thing in with_things(good):
                    if plainly.is_run(plan, thing):
                        self.assertEqual(len(words(plan, thing)), len(plan))
                    else:
                        assert_error(self, NoRun(), words, plan, thing)

    def test_26_items_and_27(self):
        for plan in (APART[:26], LINE[:26]):
            self.assertEqual(word(plan, (25,)), "a")
            self.assertEqual(chain_of(plan, "a"), (25,))
            self.assertEqual(words(plan, (0,) * 26), tuple(WHOLE))
            self.assertEqual(plain_namer(plan, 25, (), 0), "a")
        for plan in (APART[:27], LINE[:27], APART, LINE):
            assert_error(self, TooLarge(26), word, plan, (0,))
            assert_error(self, TooLarge(26), chain_of, plan, "z")
            assert_error(self, TooLarge(26), words, plan, (0,) * len(plan))
            assert_error(self, TooLarge(26), plain_namer, plan, 0, (), 0)
            self.assertEqual(rank_namer(plan, len(plan) - 1, (), 0), 0)

    def test_too_large_behind_no_plan_and_ahead_of_the_others(self):
        for thing in things():
            for function in (word, chain_of, words):
                assert_error(self, TooLarge(26), function, APART[:27], thing)
                assert_error(self, NoPlan(), function, APART + ((),), thing)
                assert_error(self, NoPlan(), function, APART[:27] + ((27,),), thing)


class Heaps(unittest.TestCase):
    def assert_judged(self, thing):
        if is_heap(thing):
            self.assertEqual(len(least_plan(thing)), len(thing))
            least = least_plan(thing)
            self.assertTrue(plainly.is_plan(least))
            self.assertTrue(plainly.is_run(least, heap_run(thing, least)))
        else:
            assert_error(self, NoHeap(), least_plan, thing)
            assert_error(self, NoHeap(), heap_run, thing, THREE)
            assert_error(self, NoHeap(), heap_run, thing, None)
            assert_error(self, NoHeap(), heap_run, thing, APART)

    def assert_lacking(self, thing):
        if are_words(thing):
            self.assertEqual(lacking(list(lacking(thing)) + list(thing)), [])
        else:
            assert_error(self, NoHeap(), lacking, thing)

    def test_things_of_every_kind(self):
        for good in [[], ["z"], ("z", "zy", "x"), ["zyx", "z", "zy"]]:
            for thing in with_things(good):
                self.assert_judged(thing)
                self.assert_lacking(thing)

    def test_texts_in_the_place_of_words(self):
        for text in BAD_TEXTS + ["z", "y", "zy", "zyx", WHOLE, "ba", "a"]:
            for thing in ([text], ("z", text), ["z", "zy", text], [text, "x"], text):
                self.assert_judged(thing)
                self.assert_lacking(thing)

    def test_two_words_with_one_last_letter(self):
        for heap in [["z", "z"], ["z", "y", "zy"], ["z", "x", "zy", "zyx"], ("z", "zy", "zy")]:
            assert_error(self, NoHeap(), least_plan, heap)
            assert_error(self, NoHeap(), heap_run, heap, THREE)
            self.assertEqual(lacking(heap), [])

    def test_a_beginning_that_is_missing(self):
        for heap in [["zy"], ["zyx", "z"], ["zyx", "z", "y"], ("zyx", "zy"), ["yx", "zy", "z"], [WHOLE]]:
            assert_error(self, NoHeap(), least_plan, heap)
            assert_error(self, NoHeap(), heap_run, heap, THREE)
            self.assertNotEqual(lacking(heap), [])

    def test_all_lists_of_few_words(self):
        pieces = ["z", "y", "x", "zy", "zx", "yx", "zyx", "", "yz", "zz", "Z"]
        for many in range(4):
            for heap in itertools.product(pieces, repeat=many):
                self.assert_judged(heap)
                self.assert_lacking(list(heap))

    def test_plans_of_heap_run(self):
        for thing in with_things(THREE):
            if not plainly.is_plan(thing):
                assert_error(self, NoPlan(), heap_run, ["z", "zy", "x"], thing)
        assert_error(self, NoPlan(), heap_run, [], APART + ((),))

    def test_one_item_more_and_one_less(self):
        heap = ["z", "y", "yx"]
        for plan in [(), ((),), THREE[:2], THREE + ((),), APART, LINE]:
            assert_error(self, OtherSize(), heap_run, heap, plan)
        assert_error(self, OtherSize(), heap_run, [], ((),))
        assert_error(self, OtherSize(), heap_run, ["z"], ())
        assert_error(self, OtherSize(), heap_run, list(WHOLE), APART[:25])
        assert_error(self, OtherSize(), heap_run, list(WHOLE), APART[:27])


class Strangers(unittest.TestCase):
    def test_runs_of_every_kind(self):
        for plan in [(), ((),), THREE, FORK, APART]:
            for good in [(), (0,), (0, 0, 1)]:
                for thing in with_things(good):
                    if plainly.is_run(plan, thing):
                        self.assertEqual(played(plan, thing, rank_namer, rank_table)[0], "done")
                    else:
                        assert_error(self, NoRun(), played, plan, thing, rank_namer, rank_table)

    def test_no_stranger_is_called_ahead_of_an_error(self):
        def never(*_):
            self.fail("called")

        assert_error(self, NoRun(), played, THREE, (0, 0), never, never)
        assert_error(self, NoPlan(), played, None, (0, 0), never, never)
        assert_error(self, TooMany(5000), faulty, LINE, never, never)
        assert_error(self, TooMany(600), foe, LINE, never, never)
        self.assertIs(is_foe(THREE, never, never, None), False)

    def test_5000_runs_and_more(self):
        plan = ((),) * 4 + ((0, 1, 2, 3),) * 4 + ((0,),) * 3
        self.assertEqual(len(plainly.all_runs(plan)), 5000)
        self.assertIsNone(faulty(plan, rank_namer, rank_table))
        # No plan has from 5001 to 5004 runs: each of these numbers has a prime above 40.
        plan = ((),) * 12 + tuple(tuple(range(many)) for many in (4, 6, 10, 12))
        self.assertEqual(len(plainly.all_runs(plan)), 5005)
        assert_error(self, TooMany(5000), faulty, plan, rank_namer, rank_table)
        assert_error(self, TooMany(5000), faulty, LINE[:7], rank_namer, rank_table)
        assert_error(self, TooMany(5000), faulty, LINE, rank_namer, rank_table)

    def test_600_chains_and_601(self):
        plan = plainly.with_chains(600)
        found = foe(plan, rank_namer, rank_table)
        self.assertEqual(len(found[1]), 600)
        larger = plainly.with_chains(601)
        assert_error(self, TooMany(600), foe, larger, rank_namer, rank_table)
        self.assertIs(is_foe(larger, rank_namer, rank_table, found), False)
        self.assertIs(is_foe(LINE, rank_namer, rank_table, found), False)
        self.assertIs(is_foe(LINE, rank_namer, rank_table, None), False)
        fault = ("fault", (0,) * 40, ("name", 39))
        self.assertIs(is_foe(LINE, lambda plan, item, view, gap: None if item == 39 else item, lambda a, b: a > b, fault),
                      True)

    def test_is_foe_of_601_rows(self):
        larger = plainly.with_chains(601)
        runs = {}
        for run in [(0,) * len(larger), tuple(len(row) for row in larger)]:
            for item, name in enumerate(played(larger, run, rank_namer, rank_table)[1]):
                runs[name] = (run, item)
        rows = list(runs.values())
        self.assertIs(is_foe(larger, rank_namer, rank_table, ("names", rows)), False)

    def test_nothing_that_is_passed_is_changed(self):
        rows = foe(THREE, plain_namer, plain_table)[1]
        thing = ("names", rows)
        before = repr(thing)
        self.assertIs(is_foe(THREE, plain_namer, plain_table, thing), True)
        self.assertEqual(repr(thing), before)
        for good in [["z", "zy", "x"], ["zyx"]]:
            before = repr(good)
            lacking(good)
            if is_heap(good):
                least_plan(good)
                heap_run(good, THREE)
            self.assertEqual(repr(good), before)

    def test_names_and_flags_of_every_kind(self):
        for thing in things():
            told = played(((), ()), (0, 0), lambda plan, item, view, gap: thing if item else "a", plain_named)
            if type(thing) is int or type(thing) is str:
                self.assertEqual(told[0], "same" if thing == "a" else "done")
            else:
                self.assertEqual(told, ("name", 1))
            told = played(((), ()), (0, 0), lambda plan, item, view, gap: item, lambda one, _: thing if one else False)
            self.assertEqual(told, ("done", (0, 1), (1, 0)) if thing is True else ("silent", 0, 1))
            told = played(((), ()), (0, 0), lambda plan, item, view, gap: item, lambda one, _: True if one else thing)
            self.assertEqual(told, ("done", (0, 1), (1, 0)) if thing is False else ("silent", 0, 1))
        self.assertTrue(strange.is_name("a"))


def plain_named(one, other):
    """Whether the one name is the first one."""
    return one == "a"


if __name__ == "__main__":
    unittest.main()
