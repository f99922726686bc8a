"""Which error each call about books, stocks, rooms and descents raises [8 to 11], whatever is passed, and which first."""

import itertools
import unittest

from putbetween.books import book_fault, is_right_book, plain_book
from putbetween.descents import (
    descent_faulty, descent_foe, descent_names, descent_played, is_descent_foe, many_descents)
from putbetween.errors import NoBook, NoHands, NoName, NoPlan, NoRooms, NoRow, NoRun, TooMany
from putbetween.rooms import document, many_room_runs, room_names, room_told
from putbetween.stocks import fewest_hands, is_fewest, stocks
from tests import plainly, strange
from tests.wrong import assert_error, things, with_things

THREE = ((), (0,), (0, 1))
FORK = ((), (0,), (0,))
APART = ((),) * 40
LINE = tuple(tuple(range(item)) for item in range(40))
PLANS = [(), ((),), THREE, FORK, APART]
MANY_5000 = ((),) * 4 + ((0, 1, 2, 3),) * 4 + ((0,),) * 3
# No plan has from 5001 to 5004 runs: each of these numbers has a prime above 40.
MANY_5005 = ((),) * 12 + tuple(tuple(range(many)) for many in (4, 6, 10, 12))

NAMER = strange.descent_namer(range(40))
TABLE = strange.descent_table


def is_number(least, most, thing):
    return type(thing) is int and least <= thing <= most


def is_row(thing):
    if type(thing) not in (list, tuple) or len(thing) > 5000 or not all(strange.is_name(name) for name in thing):
        return False
    return len({repr(name) for name in thing}) == len(thing)


def is_mark(seen, rooms, thing):
    if thing is None:
        return True
    if type(thing) is not tuple or len(thing) != 2 or not all(type(part) is int for part in thing):
        return False
    return thing[0] in seen and 0 <= thing[1] <= rooms


def is_room_run(plan, rooms, thing):
    if type(thing) is not tuple or len(thing) != len(plan):
        return False
    return all(is_mark(seen, rooms, mark) for seen, mark in zip(plan, thing))


def is_room_name(thing):
    if type(thing) is not tuple or not thing:
        return False
    for step in thing:
        if type(step) is not tuple or len(step) != 2 or not is_number(0, 5, step[0]) or not is_number(0, 39, step[1]):
            return False
    return thing[0][0] == 0 and all(one[1] < other[1] for one, other in zip(thing, thing[1:]))


def never(*_):
    """A stranger that may not be called."""
    raise AssertionError("called")


class Books(unittest.TestCase):
    def test_books_of_every_kind(self):
        book, row = plain_book(FORK)
        for thing in things():
            if type(thing) is dict:
                self.assertEqual(book_fault(FORK, thing, row), ((0, 0, 0), ("name", 0)))
                self.assertIs(is_right_book(FORK, thing, row), False)
            else:
                assert_error(self, NoBook(), book_fault, FORK, thing, row)
                assert_error(self, NoBook(), book_fault, FORK, thing, None)
                assert_error(self, NoBook(), is_right_book, FORK, thing, row)
                assert_error(self, NoBook(), is_right_book, FORK, thing, None)
        assert_error(self, NoBook(), book_fault, FORK, list(book.items()), row)

    def test_entries_of_every_kind(self):
        book, row = plain_book(FORK)
        for key in book:
            for thing in things():
                namer = lambda plan, item, view, gap: changed.get((item, tuple(u for u, _ in view), gap))
                table = lambda one, other: row.index(one) < row.index(other) if {one, other} <= set(row) else None
                changed = {**book, key: thing}
                wanted = strange.faulty(
                    plainly.all_runs(FORK), lambda run: strange.played(FORK, run, namer, table))
                self.assertTrue(strange.same(book_fault(FORK, changed, row), wanted))
                self.assertIs(is_right_book(FORK, changed, row), wanted is None)

    def test_rows_of_every_kind(self):
        book, row = plain_book(FORK)
        for good in [row, list(row), [], ("a", 1, "1")]:
            for thing in with_things(good):
                if is_row(thing):
                    self.assertIs(is_right_book(FORK, book, thing), book_fault(FORK, book, thing) is None)
                else:
                    assert_error(self, NoRow(), book_fault, FORK, book, thing)
                    self.assertIs(is_right_book(FORK, book, thing), False)
        for thing in [(0, 0), [1, 2, 1], ("a", "a"), dict.fromkeys(row), {*row}, (0, True), (None,), "01234", iter(row)]:
            assert_error(self, NoRow(), book_fault, FORK, book, thing)
            self.assertIs(is_right_book(FORK, book, thing), False)

    def test_rows_of_5000_names_and_5001(self):
        book, row = plain_book(THREE)
        for kind in (list, tuple):
            self.assertIsNone(book_fault(THREE, book, kind(range(5000))))
            self.assertIs(is_right_book(THREE, book, kind(range(5000))), True)
            assert_error(self, NoRow(), book_fault, THREE, book, kind(range(5001)))
            self.assertIs(is_right_book(THREE, book, kind(range(5001))), False)

    def test_5000_runs_and_more(self):
        self.assertEqual(len(plainly.all_runs(MANY_5000)), 5000)
        self.assertEqual(len(plainly.all_runs(MANY_5005)), 5005)
        book, row = plain_book(MANY_5000)
        self.assertIsNone(book_fault(MANY_5000, book, row))
        self.assertIs(is_right_book(MANY_5000, book, row), True)
        for plan in (MANY_5005, LINE[:7], LINE):
            assert_error(self, TooMany(5000), plain_book, plan)
            assert_error(self, TooMany(5000), book_fault, plan, book, row)
            assert_error(self, TooMany(5000), is_right_book, plan, book, row)

    def test_which_error_comes_first(self):
        for thing in things():
            if type(thing) is not dict:
                assert_error(self, NoBook(), book_fault, LINE, thing, None)
                assert_error(self, NoBook(), is_right_book, LINE, thing, None)
            assert_error(self, NoPlan(), book_fault, None, thing, thing)
            assert_error(self, NoPlan(), is_right_book, None, thing, thing)
            if not is_row(thing):
                assert_error(self, NoRow(), book_fault, LINE, {}, thing)
            # False is told for what is no row behind the errors alone.
            assert_error(self, TooMany(5000), is_right_book, LINE, {}, thing)
        assert_error(self, NoRow(), book_fault, LINE, {}, range(5001))

    def test_nothing_that_is_passed_is_changed(self):
        book, row = plain_book(THREE)
        keys, names = list(book), list(row)
        book_fault(THREE, book, names)
        is_right_book(THREE, book, names)
        self.assertEqual((list(book), names), (keys, list(row)))


class Hands(unittest.TestCase):
    def test_any_thing_in_any_place(self):
        for plan in PLANS:
            for good in [(), (0,), (0, 15, 0), (0,) * 40]:
                for thing in with_things(good):
                    if type(thing) is tuple and len(thing) == len(plan) and all(is_number(0, 15, h) for h in thing):
                        self.assertEqual(len(stocks(plan, thing)), max(thing, default=-1) + 1)
                    else:
                        assert_error(self, NoHands(), stocks, plan, thing)

    def test_edges(self):
        self.assertEqual(stocks(((),), (15,)), (0,) * 15 + (1,))
        self.assertEqual(stocks(((), ()), (0, 2)), (1, 0, 1))
        for hands in [(16,), (-1,), [0], (), (0, 0), (True,), (None,), "0", {0: 0}, 0]:
            assert_error(self, NoHands(), stocks, ((),), hands)
        assert_error(self, NoHands(), stocks, LINE, (0,) * 39)
        assert_error(self, NoHands(), stocks, LINE, (0,) * 41)
        assert_error(self, NoHands(), stocks, (), (0,))

    def test_what_is_told_may_be_passed_on(self):
        for plan in (LINE, APART, THREE):
            self.assertIs(is_fewest(plan, fewest_hands(plan)), True)


class Rooms(unittest.TestCase):
    def test_rooms_of_every_kind(self):
        for plan in PLANS:
            run = (None,) * len(plan)
            for thing in things() + [-1, 5, 6]:
                if is_number(0, 5, thing):
                    self.assertEqual(len(document(plan, thing, run)), len(plan))
                    self.assertEqual(len(room_names(plan, thing, run)), len(plan))
                    self.assertGreaterEqual(many_room_runs(plan, thing), 1)
                else:
                    assert_error(self, NoRooms(), many_room_runs, plan, thing)
                    for function in (document, room_names):
                        assert_error(self, NoRooms(), function, plan, thing, run)
                        assert_error(self, NoRooms(), function, plan, thing, None)
                        assert_error(self, NoPlan(), function, [], thing, None)

    def test_runs_of_every_kind(self):
        for plan in PLANS:
            for rooms in (0, 2, 5):
                for good in [(), (None,), (None, (0, 0), (0, 2)), (None, None, (1, 1)), (None, (0, 5), None)]:
                    for thing in with_things(good):
                        if is_room_run(plan, rooms, thing):
                            self.assertEqual(len(room_names(plan, rooms, thing)), len(plan))
                            self.assertLessEqual(len(document(plan, rooms, thing)), len(plan))
                        else:
                            assert_error(self, NoRun(), document, plan, rooms, thing)
                            assert_error(self, NoRun(), room_names, plan, rooms, thing)

    def test_marks(self):
        for rooms in range(6):
            for number in range(rooms + 1):
                self.assertEqual(room_names(((), (0,)), rooms, (None, (0, number)))[1], ((0, 0), (number, 1)))
            for mark in [(0, rooms + 1), (0, -1), (1, 0), (-1, 0), (0,), (0, 0, 0), [0, 0], (0, None), (None, 0), (False, 0),
                         (0, False), 0, "", ()]:
                assert_error(self, NoRun(), document, ((), (0,)), rooms, (None, mark))
                assert_error(self, NoRun(), room_names, ((), (0,)), rooms, (None, mark))
            assert_error(self, NoRun(), document, ((), ()), rooms, (None, (0, 0)))
            assert_error(self, NoRun(), room_names, ((),), rooms, ((0, 0),))
            assert_error(self, NoRun(), room_names, ((), (0,)), rooms, [None, None])

    def test_names_of_every_kind(self):
        other = ((0, 38), (1, 39))
        for good in [((0, 0),), ((0, 0), (5, 1)), ((0, 1), (0, 2), (3, 39))]:
            for thing in with_things(good):
                if is_room_name(thing):
                    self.assertIn(room_told(thing, other), ("ahead", "behind"))
                    self.assertIn(room_told(other, thing), ("ahead", "behind"))
                    assert_error(self, NoName(), room_told, thing, thing)
                else:
                    assert_error(self, NoName(), room_told, thing, other)
                    assert_error(self, NoName(), room_told, other, thing)
                    assert_error(self, NoName(), room_told, thing, thing)

    def test_names_at_the_edges(self):
        one = ((0, 0),)
        for good in [((0, 39),), ((0, 0), (5, 39)), ((0, 0), (0, 1)), tuple((0, item) for item in range(40))]:
            self.assertIsNotNone(room_told(good, one))
            self.assertIsNotNone(room_told(one, good))
            assert_error(self, NoName(), room_told, good, good)
        for bad in [(), ((0, 40),), ((1, 0),), ((5, 0),), ((-1, 0),), ((0, -1),), ((0, 0), (6, 1)), ((0, 0), (-1, 1)),
                    ((0, 0), (1, 0)), ((0, 1), (1, 0)), ((0, 0), (1, 40)), ((0, 0), (1, 39), (1, 40)), [(0, 0)],
                    ([0, 0],), ((0, 0, 0),), ((0,),), ((False, 0),), ((0, False),), ((0, 0), (True, 1)), (0, 0),
                    tuple((0, item) for item in range(41)), ((0, 0), None), "", None]:
            assert_error(self, NoName(), room_told, bad, one)
            assert_error(self, NoName(), room_told, one, bad)
            assert_error(self, NoName(), room_told, bad, bad)

    def test_two_equal_names(self):
        for one, other in itertools.product([((0, 0),), ((0, 1),), ((0, 0), (1, 1)), ((0, 0), (2, 1))], repeat=2):
            if one == other:
                assert_error(self, NoName(), room_told, one, tuple(list(other)))
            else:
                self.assertIsNotNone(room_told(one, other))


class Descents(unittest.TestCase):
    def test_runs_of_every_kind(self):
        for plan in PLANS:
            for good in [(), (None,), (None, 0, 1), (None, 0, 0), (None, None, None)]:
                for thing in with_things(good):
                    if strange.is_descents(plan, thing):
                        self.assertEqual(len(descent_names(plan, thing)), len(plan))
                        self.assertEqual(descent_played(plan, thing, NAMER, TABLE)[0], "done")
                    else:
                        assert_error(self, NoRun(), descent_names, plan, thing)
                        assert_error(self, NoRun(), descent_played, plan, thing, never, never)

    def test_elders(self):
        for run in [(None, 1, None), (None, 0, 2), (None, -1, None), (0, None, None), (None, False, None), (None, 0, True),
                    (None, None), (None,) * 4, [None] * 3, (None, (0,), None), (None, "0", None), None]:
            assert_error(self, NoRun(), descent_names, THREE, run)
            assert_error(self, NoRun(), descent_played, THREE, run, never, never)
        assert_error(self, NoRun(), descent_names, FORK, (None, None, 1))

    def test_5000_runs_and_more(self):
        self.assertEqual(many_descents(MANY_5000), 5000)
        self.assertIsNone(descent_faulty(MANY_5000, NAMER, TABLE))
        for plan in (MANY_5005, LINE[:7], LINE):
            assert_error(self, TooMany(5000), descent_faulty, plan, never, never)
        assert_error(self, NoPlan(), descent_faulty, LINE + ((),), never, never)

    def test_600_chains_and_601(self):
        plan, larger = plainly.with_chains(600), plainly.with_chains(601)
        found = descent_foe(plan, NAMER, TABLE)
        self.assertEqual(len(found[1]), 600)
        self.assertIs(is_descent_foe(plan, NAMER, TABLE, found), True)
        assert_error(self, TooMany(600), descent_foe, larger, never, never)
        assert_error(self, TooMany(600), descent_foe, LINE, never, never)
        self.assertIs(is_descent_foe(larger, NAMER, TABLE, found), False)
        self.assertIs(is_descent_foe(LINE, never, never, found), False)
        self.assertIs(is_descent_foe(LINE, never, never, None), False)
        rows = []
        for chain in plainly.all_chains(larger):
            elders = dict(zip(chain[1:], chain))
            rows.append((tuple(elders.get(item) for item in range(len(larger))), chain[-1]))
        self.assertEqual(len(rows), 601)
        self.assertIs(is_descent_foe(larger, NAMER, TABLE, ("names", rows)), True)
        self.assertIs(is_descent_foe(larger, NAMER, TABLE, ("names", rows[1:])), False)

    def test_a_fault_in_a_plan_with_many_chains(self):
        fault = ("fault", (None,) * 40, ("name", 39))
        last = lambda plan, item, view, elder: item if item < 39 else None
        self.assertIs(is_descent_foe(LINE, last, lambda one, other: False, fault), True)


if __name__ == "__main__":
    unittest.main()
