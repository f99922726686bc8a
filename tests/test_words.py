"""Words [5.1]: chains as strings, and chains read from them."""

import itertools
import random
import unittest

from putbetween.errors import NoWord
from putbetween.naming import names
from putbetween.plans import all_plans
from putbetween.words import chain_of, word, words
from tests import plainly
from tests.wrong import assert_error

THREE = ((), (0,), (0, 1))
LINE = tuple(tuple(range(item)) for item in range(26))
APART = ((),) * 26

SMALL = [plan for many in range(5) for plan in all_plans(many)] + plainly.drawn_plans(81, 20, 7)
LARGE = plainly.drawn_plans(82, 30, 26) + [LINE, APART]


def letter(item):
    """The letter of an item, counted down from z."""
    return chr(ord("z") - item)


def spelled(chain):
    return "".join(letter(item) for item in chain)


def drawn_chain(draw, plan):
    """A chain of a plan that is not empty, from its last item down."""
    chain = (draw.randrange(len(plan)),)
    while plan[chain[0]] and draw.randrange(4):
        chain = (draw.choice(plan[chain[0]]),) + chain
    return chain


class Words(unittest.TestCase):
    def test_ordinary(self):
        self.assertEqual(word(THREE, (0,)), "z")
        self.assertEqual(word(THREE, (1, 2)), "yx")
        self.assertEqual(word(THREE, (0, 1, 2)), "zyx")
        self.assertEqual(chain_of(THREE, "zx"), (0, 2))
        self.assertEqual(chain_of(THREE, "y"), (1,))
        self.assertEqual(words(THREE, (0, 0, 1)), ("z", "y", "yx"))
        self.assertEqual(words((), ()), ())
        self.assertEqual(words(((),), (0,)), ("z",))

    def test_26_letters(self):
        whole = "zyxwvutsrqponmlkjihgfedcba"
        self.assertEqual(word(LINE, tuple(range(26))), whole)
        self.assertEqual(chain_of(LINE, whole), tuple(range(26)))
        self.assertEqual(words(LINE, tuple(range(26))), tuple(whole[:many] for many in range(1, 27)))
        self.assertEqual(words(APART, (0,) * 26), tuple(whole))
        self.assertEqual(words(LINE, (0,) * 26), tuple(whole))
        self.assertEqual(chain_of(APART, "a"), (25,))

    def test_the_letters_of_all_chains_and_back(self):
        for plan in SMALL:
            for chain in plainly.all_chains(plan):
                found = word(plan, chain)
                self.assertIs(type(found), str)
                self.assertEqual(found, spelled(chain))
                back = chain_of(plan, found)
                self.assertIs(type(back), tuple)
                self.assertEqual(back, chain)

    def test_large_plans(self):
        draw = random.Random(83)
        for plan in LARGE:
            for _ in range(20 if plan else 0):
                chain = drawn_chain(draw, plan)
                self.assertEqual(word(plan, chain), spelled(chain))
                self.assertEqual(chain_of(plan, spelled(chain)), chain)

    def test_words_of_runs(self):
        draw = random.Random(84)
        runs = [(plan, run) for plan in SMALL[:60] for run in plainly.all_runs(plan)]
        runs += [(plan, plainly.drawn_run(draw, plan)) for plan in SMALL + LARGE for _ in range(5)]
        for plan, run in runs:
            found = words(plan, run)
            self.assertIs(type(found), tuple)
            self.assertEqual(found, tuple(spelled(chain) for chain in plainly.names(plan, run)))
            self.assertEqual(tuple(chain_of(plan, text) for text in found), names(plan, run))

    def test_each_other_text_of_few_letters_is_no_word(self):
        texts = [""]
        for many in range(1, 5):
            texts.extend("".join(signs) for signs in itertools.product("zyxwv", repeat=many))
        for plan in [THREE, (), ((),), ((), (0,), (0,), (0, 1)), ((), (), (0, 1), (), (0, 1, 2, 3)), APART[:5]]:
            wanted = {spelled(chain): chain for chain in plainly.all_chains(plan)}
            for text in texts:
                if text in wanted:
                    self.assertEqual(chain_of(plan, text), wanted[text])
                else:
                    assert_error(self, NoWord(), chain_of, plan, text)

    def test_second_fact(self):
        for plan in [plan for plan in SMALL if len(plan) < 6]:
            for one, other in itertools.product(plainly.all_chains(plan), repeat=2):
                self.assertIs(word(plan, one) < word(plan, other), one != other and plainly.is_ahead(one, other))


if __name__ == "__main__":
    unittest.main()
