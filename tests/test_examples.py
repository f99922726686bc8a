"""The examples of DOC.md."""

import unittest

from putbetween.chains import chains, ending, weighed
from putbetween.plans import plan_of

THREE = ((), (0,), (0, 1))


class Examples(unittest.TestCase):
    def test_e01(self):
        self.assertEqual(chains(THREE), 7)
        self.assertEqual(ending(THREE), (1, 2, 4))

    def test_e05(self):
        self.assertEqual(plan_of([[], [0], [1]]), THREE)

    def test_e10(self):
        self.assertEqual(weighed(THREE, 2), 13)


if __name__ == "__main__":
    unittest.main()
