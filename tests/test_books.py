"""Books [8]: names that are looked up, and their order in a row."""

import itertools
import random
import unittest

from putbetween.books import book_fault, is_right_book, plain_book
from putbetween.plans import all_plans
from tests import plainly, strange
from tests.wrong import things

THREE = ((), (0,), (0, 1))
FORK = ((), (0,), (0,))
SMALL = [plan for many in range(5) for plan in all_plans(many)] + plainly.drawn_plans(141, 12, 6)


def looking_up(book):
    """The namer that looks up the book: None, which is no name, where it has no entry."""
    return lambda plan, item, view, gap: book[key] if (key := (item, tuple(u for u, _ in view), gap)) in book else None


def of_row(row):
    """The table that looks up the row: None, which is no flag, where it has not both names."""
    def table(one, other):
        found = [at for name in (one, other) for at, known in enumerate(row) if strange.same(known, name)]
        return found[0] < found[1] if len(found) == 2 else None
    return table


def fault_of(plan, book, row):
    namer, table = looking_up(book), of_row(row)
    return strange.faulty(plainly.all_runs(plan), lambda run: strange.played(plan, run, namer, table))


def triples(plan):
    """All triples that come on the runs, with the plain names."""
    found = {}
    for run in plainly.all_runs(plan):
        order = plainly.standing(plan, run)
        for item, name in enumerate(plainly.names(plan, run)):
            found[(item, tuple(u for u in order if u in plan[item]), run[item])] = name
    return found


def right_book(draw, plan):
    """A book without a fault, with drawn names of both kinds, and its row."""
    chains = plainly.in_order(plainly.all_chains(plan))
    numbers = draw.sample(range(-500, 500), len(chains))
    names = {chain: draw.choice([number, str(number), "n" * 50 + str(number)]) for chain, number in zip(chains, numbers)}
    return {key: names[chain] for key, chain in triples(plan).items()}, [names[chain] for chain in chains]


class PlainBook(unittest.TestCase):
    def test_ordinary(self):
        self.assertEqual(plain_book(()), ({}, ()))
        self.assertEqual(plain_book(((),)), ({(0, (), 0): 0}, (0,)))
        self.assertEqual(
            plain_book(((), (0,))), ({(0, (), 0): 1, (1, (0,), 0): 0, (1, (0,), 1): 2}, (0, 1, 2)))

    def test_all_triples_that_come(self):
        for plan in SMALL:
            ranks = {chain: rank for rank, chain in enumerate(plainly.in_order(plainly.all_chains(plan)))}
            pair = plain_book(plan)
            self.assertIs(type(pair), tuple)
            book, row = pair
            self.assertEqual(book, {key: ranks[chain] for key, chain in triples(plan).items()})
            self.assertTrue(strange.same(row, tuple(range(len(ranks)))))
            self.assertTrue(all(type(name) is int for name in book.values()))

    def test_a_right_book(self):
        for plan in SMALL:
            book, row = plain_book(plan)
            self.assertIsNone(book_fault(plan, book, row))
            self.assertIs(is_right_book(plan, book, row), True)
            self.assertIs(is_right_book(plan, book, list(row)), True)

    def test_40_items(self):
        for plan in [((),) * 40, ((),) * 36 + ((0,), (1,), (2, 3), (0, 35))]:
            book, row = plain_book(plan)
            # None of these items has seen one that has seen another one.
            self.assertEqual(len(row), sum(1 + len(seen) for seen in plan))
            self.assertIs(is_right_book(plan, book, row), True)

    def test_new_dicts(self):
        one, other = plain_book(THREE), plain_book(THREE)
        self.assertEqual(one, other)
        one[0].clear()
        self.assertEqual(plain_book(THREE), other)


class Books(unittest.TestCase):
    def assert_book(self, plan, book, row):
        """Hold that the two functions tell what a search by the plain words tells."""
        before = repr((book, row))
        wanted = fault_of(plan, book, row)
        found = book_fault(plan, book, row)
        self.assertTrue(strange.same(found, wanted), (plan, book, row, found, wanted))
        self.assertIs(is_right_book(plan, book, row), wanted is None)
        self.assertEqual(repr((book, row)), before)
        if wanted is None:
            # FACT: the names that the book has on runs are at least as many as the chains.
            self.assertGreaterEqual(len({repr(book[key]) for key in book}), len(plainly.all_chains(plan)))
        return wanted

    def test_ordinary(self):
        self.assertIsNone(book_fault((), {}, ()))
        self.assertIsNone(book_fault((), {}, []))
        self.assertIsNone(book_fault(((),), {(0, (), 0): "a"}, ()))
        self.assertEqual(book_fault(((),), {}, ()), ((0,), ("name", 0)))
        self.assertEqual(book_fault(((), ()), {(0, (), 0): 1, (1, (), 0): 2}, [1]), ((0, 0), ("silent", 0, 1)))
        self.assertEqual(book_fault(((), ()), {(0, (), 0): 1, (1, (), 0): 2}, [2]), ((0, 0), ("silent", 0, 1)))
        self.assertIsNone(book_fault(((), ()), {(0, (), 0): 1, (1, (), 0): 2}, [2, 1]))
        self.assertEqual(book_fault(((), ()), {(0, (), 0): 1, (1, (), 0): 1}, [2, 1]), ((0, 0), ("same", 0, 1)))

    def test_drawn_right_books(self):
        draw = random.Random(142)
        for plan in SMALL:
            book, row = right_book(draw, plan)
            self.assertIsNone(self.assert_book(plan, book, row))
            self.assertIsNone(self.assert_book(plan, book, tuple(row)))

    def test_an_entry_left_out(self):
        for plan in SMALL[:40]:
            book, row = plain_book(plan)
            for key in book:
                less = {other: name for other, name in book.items() if other != key}
                self.assertEqual(self.assert_book(plan, less, row)[1], ("name", key[0]))

    def test_a_name_exchanged(self):
        draw = random.Random(143)
        for plan in SMALL:
            book, row = right_book(draw, plan)
            for key in draw.sample(sorted(book), min(len(book), 4)):
                for name in [None, True, False, 5000, str(book[key]) + " ", (), b"a", [1], draw.choice(row)]:
                    self.assert_book(plan, {**book, key: name}, row)

    def test_names_that_are_none(self):
        for thing in things():
            if not strange.is_name(thing):
                book = {(0, (), 0): 7, (1, (0,), 0): 5, (1, (0,), 1): thing}
                self.assertEqual(book_fault(((), (0,)), book, [5, 7]), ((0, 1), ("name", 1)))
                self.assertIs(is_right_book(((), (0,)), book, [5, 7]), False)

    def test_two_names_alike(self):
        draw = random.Random(144)
        for plan in [plan for plan in SMALL if len(plan) > 1]:
            book, row = plain_book(plan)
            for one, other in draw.sample(list(itertools.permutations(sorted(book), 2)), 8 if len(book) > 3 else 2):
                self.assert_book(plan, {**book, one: book[other]}, row)
            one, other = draw.sample(row, 2)
            merged = {key: one if name == other else name for key, name in book.items()}
            self.assertIsNotNone(self.assert_book(plan, merged, row))

    def test_keys_that_never_come(self):
        for plan in SMALL[:30]:
            book, row = plain_book(plan)
            strays = {(40, (), 0): None, (0, (), 1): row, (0, (0,), 0): 5, "a": (), None: None, True: False,
                      (1, (2,), 0): 0, (len(plan), (), 0): 0, (-1, (), 0): 3, b"": 0, (): (), 10 ** 60 - 1: 1,
                      (0, None, 0): None, (0, ((),), 0): 9, ("0", (), 0): 9}
            self.assertIsNone(self.assert_book(plan, {**strays, **book}, row))
            if plan:
                self.assertEqual(self.assert_book(plan, strays, row)[1], ("name", 0))

    def test_keys_as_python_looks_them_up(self):
        for zero, one in [(0, 1), (False, True)]:
            book = {(zero, (), zero): 5, (one, (zero,), zero): 4, (one, (zero,), one): 6}
            self.assertIsNone(book_fault(((), (0,)), book, (4, 5, 6)))
            self.assertIs(is_right_book(((), (0,)), book, (4, 5, 6)), True)

    def test_the_order_of_the_keys_means_nothing(self):
        draw = random.Random(145)
        for plan in SMALL[20:40]:
            book, row = plain_book(plan)
            keys = list(book)
            draw.shuffle(keys)
            self.assertIsNone(self.assert_book(plan, {key: book[key] for key in keys}, row))

    def test_rows(self):
        draw = random.Random(146)
        for plan in [plan for plan in SMALL if len(plan) > 1]:
            book, row = right_book(draw, plan)
            for at in range(min(len(row), 6)):
                self.assert_book(plan, book, row[:at] + row[at + 1:])
                self.assert_book(plan, book, row[:at] + ["more"] + row[at:])
            one, other = draw.sample(range(len(row)), 2)
            exchanged = list(row)
            exchanged[one], exchanged[other] = row[other], row[one]
            self.assert_book(plan, book, exchanged)
            self.assert_book(plan, book, row[::-1])
            self.assert_book(plan, book, draw.sample(row, len(row)))
            self.assertIsNone(self.assert_book(plan, book, row + ["more", 10 ** 59, ""]))

    def test_names_that_look_alike(self):
        book = {(0, (), 0): 1, (1, (), 0): "1"}
        self.assertIsNone(self.assert_book(((), ()), book, [1, "1"]))
        self.assertEqual(self.assert_book(((), ()), book, [1, 2]), ((0, 0), ("silent", 0, 1)))
        self.assertEqual(self.assert_book(((), ()), book, ["1"]), ((0, 0), ("silent", 0, 1)))
        self.assertIsNone(self.assert_book(((), ()), {(0, (), 0): 1, (1, (), 0): 0}, [1, 0]))

    def test_each_fault(self):
        four = ((), (), (), (0, 1))
        book = {(0, (), 0): "a", (1, (), 0): "b", (2, (), 0): "c", (3, (0, 1), 0): "d", (3, (0, 1), 1): "e",
                (3, (0, 1), 2): "f"}
        self.assertIsNone(self.assert_book(four, book, ["d", "a", "e", "b", "f", "c"]))
        self.assertEqual(
            self.assert_book(four, book, ["d", "a", "b", "e", "f", "c"]), ((0, 0, 0, 1), ("against", 1, 3)))
        self.assertEqual(
            self.assert_book(four, {**book, (3, (0, 1), 1): "c"}, ["d", "a", "e", "b", "f", "c"]),
            ((0, 0, 0, 1), ("same", 2, 3)))


if __name__ == "__main__":
    unittest.main()
