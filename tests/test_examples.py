"""The examples of DOC.md."""

import unittest

from putbetween.chains import chains, ending, weighed
from putbetween.days import meet_costs
from putbetween.growth import needed
from putbetween.heaps import least_plan
from putbetween.lots import lots_needed
from putbetween.naming import names, standing
from putbetween.plans import plan_of
from putbetween.playing import plain_namer, plain_table, played
from putbetween.ranks import chain_at, rank
from putbetween.rooms import room_told
from putbetween.shapes import read_shape
from putbetween.webs import webs_needed
from putbetween.words import words

THREE = ((), (0,), (0, 1))


class Examples(unittest.TestCase):
    def test_e01(self):
        self.assertEqual(chains(THREE), 7)
        self.assertEqual(ending(THREE), (1, 2, 4))

    def test_e02(self):
        self.assertEqual(rank(THREE, (0, 2)), 4)
        self.assertEqual(chain_at(THREE, 0), (2,))

    def test_e03(self):
        self.assertEqual(names(THREE, (0, 0, 1)), ((0,), (1,), (1, 2)))
        self.assertEqual(standing(THREE, (0, 0, 1)), (1, 2, 0))

    def test_e04(self):
        self.assertEqual(words(THREE, (0, 0, 1)), ("z", "y", "yx"))

    def test_e05(self):
        self.assertEqual(plan_of([[], [0], [1]]), THREE)

    def test_e06(self):
        self.assertEqual(meet_costs([("put", 0), ("put", 1), ("meet", 0, 1), ("put", 0)]), (1,))

    def test_e07(self):
        told = played(THREE, (0, 0, 1), plain_namer, plain_table)
        self.assertEqual(told, ("done", ("z", "y", "yx"), (1, 2, 0)))

    def test_e08(self):
        self.assertEqual(lots_needed(THREE), 6)
        self.assertEqual(webs_needed(THREE, 2), 7)

    def test_e09(self):
        self.assertEqual(room_told(((0, 0), (1, 1)), ((0, 0),)), ("in", 1))

    def test_e10(self):
        self.assertEqual(weighed(THREE, 2), 13)

    def test_e11(self):
        self.assertEqual(needed({"a": ("a", "a")}, "a", 3), 7)

    def test_e12(self):
        self.assertEqual(read_shape(".>(.|.)"), ((), (0,), (0,)))

    def test_e13(self):
        self.assertEqual(least_plan(["z", "zy", "x"]), ((), (0,), ()))


if __name__ == "__main__":
    unittest.main()
