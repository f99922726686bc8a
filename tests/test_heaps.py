"""Heaps [5.2]: words without their plan."""

import itertools
import random
import unittest

from putbetween.heaps import heap_run, lacking, least_plan
from putbetween.plans import all_plans
from tests import plainly

WHOLE = "zyxwvutsrqponmlkjihgfedcba"
LINE = tuple(tuple(range(item)) for item in range(26))
APART = ((),) * 26


def words_of(plan, run, letters=WHOLE):
    """The words of the plain names of a run, written with these falling letters."""
    return ["".join(letters[item] for item in name) for name in plainly.names(plan, run)]


def named_plan(heap):
    """The plan that the words tell, letter by letter."""
    letters = sorted((word[-1] for word in heap), reverse=True)
    rows = {word[-1]: tuple(sorted(letters.index(sign) for sign in word[:-1])) for word in heap}
    return tuple(rows[letter] for letter in letters)


def runs_with(heap, plan):
    """All runs of a plan whose plain names are the words."""
    letters = sorted((word[-1] for word in heap), reverse=True)
    return [run for run in plainly.all_runs(plan) if set(words_of(plan, run, letters)) == set(heap)]


def all_heaps(many):
    """All heaps with so many words, each as an ascending tuple; their letters are the first ones."""
    line = tuple(tuple(range(item)) for item in range(many))
    return sorted({tuple(sorted(words_of(line, run))) for run in plainly.all_runs(line)})


class LeastPlan(unittest.TestCase):
    def test_ordinary(self):
        self.assertEqual(least_plan(["z", "zy", "x"]), ((), (0,), ()))
        self.assertEqual(least_plan(("x", "zy", "z")), ((), (0,), ()))
        self.assertEqual(least_plan([]), ())
        self.assertEqual(least_plan(()), ())
        self.assertEqual(least_plan(["a"]), ((),))
        self.assertEqual(least_plan(["m", "mc", "mca", "t"]), ((), (), (1,), (1, 2)))

    def test_26_words(self):
        self.assertEqual(least_plan(list(WHOLE)), APART)
        self.assertEqual(least_plan([WHOLE[:many] for many in range(26, 0, -1)]), LINE)
        self.assertEqual(least_plan(["z"] + ["z" + sign for sign in WHOLE[1:]]), ((),) + ((0,),) * 25)

    def test_letters_of_the_words(self):
        draw = random.Random(91)
        for plan in plainly.drawn_plans(92, 60, 26):
            letters = sorted(draw.sample(WHOLE, len(plan)), reverse=True)
            heap = words_of(plan, plainly.drawn_run(draw, plan), letters)
            wanted = named_plan(heap)
            draw.shuffle(heap)
            self.assertEqual(least_plan(heap), wanted)
            self.assertEqual(least_plan(tuple(heap)), wanted)
            self.assertTrue(plainly.is_plan(wanted))


class HeapRun(unittest.TestCase):
    def test_ordinary(self):
        three = ((), (0,), (0, 1))
        self.assertEqual(heap_run(["z", "y", "yx"], three), (0, 0, 1))
        self.assertEqual(heap_run(("yx", "z", "y"), three), (0, 0, 1))
        self.assertEqual(heap_run(["q", "h", "hb"], three), (0, 0, 1))
        self.assertEqual(heap_run([], ()), ())
        self.assertEqual(heap_run(["k"], ((),)), (0,))
        self.assertEqual(heap_run([WHOLE[:many] for many in range(1, 27)], LINE), tuple(range(26)))
        self.assertEqual(heap_run(list(WHOLE), APART), (0,) * 26)
        self.assertEqual(heap_run(list(WHOLE), LINE), (0,) * 26)

    def test_plans_that_have_not_the_sights_of_the_words(self):
        self.assertIsNone(heap_run(["z", "zy"], ((), ())))
        self.assertIsNone(heap_run(["z", "zy", "zx"], ((), (0,), ())))
        self.assertIsNone(heap_run(["z", "y", "yx"], ((), (0,), (0,))))
        self.assertIsNone(heap_run([WHOLE[:many] for many in range(1, 27)], APART))

    def test_a_drawn_run_in_a_drawn_order(self):
        draw = random.Random(93)
        for plan in plainly.drawn_plans(94, 80, 26) + [LINE, APART]:
            run = plainly.drawn_run(draw, plan)
            letters = sorted(draw.sample(WHOLE, len(plan)), reverse=True)
            heap = words_of(plan, run, letters)
            draw.shuffle(heap)
            self.assertEqual(heap_run(heap, plan), run)
            self.assertEqual(heap_run(tuple(heap), plan), run)

    def test_third_fact_on_all_plans_and_runs(self):
        for many in range(5):
            for heap in all_heaps(many):
                least = least_plan(heap)
                self.assertEqual(least, named_plan(heap))
                self.assertIsNotNone(heap_run(heap, least))
                for plan in all_plans(many):
                    runs = runs_with(heap, plan)
                    self.assertEqual([run for run in [heap_run(heap, plan)] if run is not None], runs)
                    if runs:
                        self.assertTrue(all(set(row) <= set(plan[item]) for item, row in enumerate(least)))

    def test_third_fact_with_five_items(self):
        draw = random.Random(95)
        heaps, plans = all_heaps(5), all_plans(5)
        for _ in range(300):
            heap, plan = draw.choice(heaps), draw.choice(plans)
            runs = runs_with(heap, plan)
            self.assertEqual([run for run in [heap_run(heap, plan)] if run is not None], runs)
            self.assertEqual(len(runs_with(heap, least_plan(heap))), 1)


class Lacking(unittest.TestCase):
    def gathered(self, things):
        every = {thing[:many] for thing in things for many in range(1, len(thing) + 1)}
        return sorted(every - set(things))

    def test_ordinary(self):
        self.assertEqual(lacking([]), [])
        self.assertEqual(lacking(()), [])
        self.assertEqual(lacking(["z", "zy"]), [])
        self.assertEqual(lacking(["zyx"]), ["z", "zy"])
        self.assertEqual(lacking(("zyx", "zyw", "zyx")), ["z", "zy"])
        self.assertEqual(lacking(["cb", "zy", "b"]), ["c", "z"])
        self.assertEqual(lacking(["zyx", "zy"]), ["z"])
        self.assertEqual(lacking([WHOLE]), [WHOLE[:many] for many in range(1, 26)])
        self.assertEqual(lacking(["a"] * 3), [])

    def test_all_beginnings_gathered(self):
        draw = random.Random(96)
        for _ in range(300):
            things = []
            for _ in range(draw.randrange(8)):
                letters = draw.sample("zyxwvut" if draw.randrange(2) else WHOLE, draw.randrange(1, 6))
                things.append("".join(sorted(letters, reverse=True)))
            kind = draw.choice([list, tuple])
            found = lacking(kind(things))
            self.assertIs(type(found), list)
            self.assertEqual(found, self.gathered(things))

    def test_few_words(self):
        words = ["".join(letters) for many in (1, 2, 3) for letters in itertools.combinations("zyx", many)]
        for many in range(4):
            for things in itertools.product(words, repeat=many):
                self.assertEqual(lacking(things), self.gathered(things))

    def test_a_new_list_each_time(self):
        for things in (["zy"], [], ["z"]):
            found = lacking(things)
            found.append("k")
            self.assertEqual(lacking(things), found[:-1])
            self.assertIsNot(lacking(things), lacking(things))
            self.assertIsNot(lacking(things), things)


if __name__ == "__main__":
    unittest.main()
