"""Papers [16]: hands that put items in and meet, and all of it taken back."""

import random
import unittest

from putbetween.errors import BetweenError, NoHand, NoNumber, NothingDone, TooMany
from putbetween.papers import Paper
from tests import plainly, strange
from tests.wrong import assert_error, things


class Own(Exception):
    """An error of an action's own."""


class Plain:
    """A paper by the plain words of the document: the events so far, and all else made of them."""

    def __init__(self, many, events=()):
        self.many = many
        self.events = list(events)

    def day(self):
        return [event[:2] if event[0] == "put" else event for event in self.events]

    def plan(self):
        return plainly.day_plan(self.day())

    def run(self):
        return tuple(event[2] for event in self.events if event[0] == "put")

    def hands(self):
        return tuple(event[1] for event in self.events if event[0] == "put")

    def seen(self, hand):
        """What an item that the hand put in now would have seen."""
        return plainly.day_plan(self.day() + [("put", hand)])[-1]

    def told(self):
        """All that can be asked of a paper."""
        order = plainly.standing(self.plan(), self.run())
        views = [tuple(item for item in order if item in self.seen(hand)) for hand in range(self.many)]
        names = plainly.names(self.plan(), self.run())
        return (self.plan(), self.run(), self.hands(), names, order, views, len(self.events))


def told_of(paper, many):
    views = [paper.view(hand) for hand in range(many)]
    return (paper.plan(), paper.run(), paper.hands(), paper.names(), paper.standing(), views, paper.changes())


class Cases(unittest.TestCase):
    def assert_same(self, paper, plain):
        self.assertTrue(strange.same(told_of(paper, plain.many), plain.told()), plain.events)

    def changed(self, draw, paper, plain):
        """Draw a change and make it on both."""
        kind = draw.choice(["put", "put", "put", "meet", "meet", "back"])
        if kind == "put":
            hand = draw.randrange(plain.many)
            gap = draw.randrange(len(plain.seen(hand)) + 1)
            plain.events.append(("put", hand, gap))
            found = paper.put(hand, gap)
            self.assertTrue(strange.same(found, plainly.names(plain.plan(), plain.run())[-1]))
        elif kind == "meet" and plain.many > 1:
            one, other = draw.sample(range(plain.many), 2)
            plain.events.append(("meet", one, other))
            self.assertIsNone(paper.meet(one, other))
        elif plain.events:
            plain.events.pop()
            self.assertIsNone(paper.back())
        else:
            assert_error(self, NothingDone(), paper.back)

    def drawn(self, draw, changes):
        """A paper with some changes, and the same by the plain words."""
        many = draw.randrange(1, 9)
        paper, plain = Paper(many), Plain(many)
        for _ in range(changes):
            self.changed(draw, paper, plain)
        return paper, plain


class Papers(Cases):
    def test_ordinary(self):
        paper = Paper(2)
        self.assertEqual(told_of(paper, 2), ((), (), (), (), (), [(), ()], 0))
        self.assertEqual(paper.put(0, 0), (0,))
        self.assertEqual(paper.put(1, 0), (1,))
        self.assertIsNone(paper.meet(0, 1))
        self.assertEqual(paper.put(0, 1), (1, 2))
        self.assertEqual(paper.plan(), ((), (), (0, 1)))
        self.assertEqual(paper.run(), (0, 0, 1))
        self.assertEqual(paper.hands(), (0, 1, 0))
        self.assertEqual(paper.names(), ((0,), (1,), (1, 2)))
        self.assertEqual(paper.standing(), (1, 2, 0))
        self.assertEqual((paper.view(0), paper.view(1)), ((1, 2, 0), (1, 0)))
        self.assertEqual(paper.changes(), 4)
        self.assertIsNone(paper.back())
        self.assertEqual((paper.plan(), paper.view(0), paper.changes()), (((), ()), (1, 0), 3))
        self.assertIsNone(paper.back())
        self.assertEqual((paper.view(0), paper.view(1), paper.changes()), ((0,), (1,), 2))

    def test_drawn_changes(self):
        draw = random.Random(501)
        for many in list(range(1, 9)) * 5:
            paper, plain = Paper(many), Plain(many)
            self.assert_same(paper, plain)
            for _ in range(25):
                self.changed(draw, paper, plain)
                self.assert_same(paper, plain)

    def test_all_the_way_back(self):
        draw = random.Random(502)
        for _ in range(20):
            paper, plain = self.drawn(draw, 30)
            while plain.events:
                plain.events.pop()
                self.assertIsNone(paper.back())
                self.assert_same(paper, plain)
            for _ in range(2):
                assert_error(self, NothingDone(), paper.back)
                self.assert_same(paper, plain)
            self.changed(draw, paper, plain)
            self.assert_same(paper, plain)

    def test_meets_that_show_nothing_new_can_be_taken_back(self):
        paper = Paper(3)
        for many in range(50):
            self.assertEqual(paper.changes(), many)
            self.assertIsNone(paper.meet(many % 3, (many + 1) % 3))
        for many in range(50):
            self.assertEqual(paper.changes(), 50 - many)
            self.assertIsNone(paper.back())
        assert_error(self, NothingDone(), paper.back)

    def test_40_items(self):
        paper = Paper(8)
        for item in range(40):
            paper.put(item % 8, item // 8)
        before = told_of(paper, 8)
        for gap in range(6):
            assert_error(self, TooMany(40), paper.put, 3, gap)
        assert_error(self, NoNumber(), paper.put, 3, 6)
        assert_error(self, NoNumber(), paper.put, 3, None)
        assert_error(self, NoHand(), paper.put, 8, None)
        self.assertEqual(told_of(paper, 8), before)
        self.assertIsNone(paper.meet(0, 1))
        self.assertEqual(len(paper.view(0)), 10)
        paper.back()
        paper.back()
        self.assertEqual(paper.put(7, 0), (39,))
        assert_error(self, TooMany(40), paper.put, 0, 0)

    def test_many_changes(self):
        paper = Paper(2)
        for many in range(3000):
            paper.meet(many % 2, 1 - many % 2)
        self.assertEqual(paper.changes(), 3000)
        self.assertEqual(paper.put(0, 0), (0,))
        self.assertEqual(paper.trying(lambda inner: [inner.back() for _ in range(3001)]), [None] * 3001)
        self.assertEqual(paper.changes(), 3001)

    def test_papers_apart(self):
        one, other = Paper(2), Paper(2)
        one.put(0, 0)
        self.assertEqual((one.changes(), other.changes()), (1, 0))
        self.assertEqual(other.plan(), ())


class Copies(Cases):
    def test_copies_go_on_apart(self):
        draw = random.Random(503)
        for _ in range(20):
            paper, plain = self.drawn(draw, 12)
            copied = paper.copy()
            self.assertIs(type(copied), Paper)
            self.assertIsNot(copied, paper)
            twin = Plain(plain.many, plain.events)
            self.assert_same(copied, twin)
            for _ in range(12):
                self.changed(draw, *draw.choice([(paper, plain), (copied, twin)]))
                self.assert_same(paper, plain)
                self.assert_same(copied, twin)
            for paper, plain in [(copied, twin), (paper, plain)]:
                while plain.events:
                    plain.events.pop()
                    paper.back()
                    self.assert_same(paper, plain)
                assert_error(self, NothingDone(), paper.back)

    def test_a_copy_of_a_new_paper(self):
        for many in range(1, 9):
            copied = Paper(many).copy()
            self.assert_same(copied, Plain(many))
            assert_error(self, NoHand(), copied.view, many)
            assert_error(self, NothingDone(), copied.back)

    def test_a_copy_of_a_copy(self):
        paper = Paper(1)
        paper.put(0, 0)
        copied = paper.copy().copy()
        copied.put(0, 1)
        copied.back()
        copied.back()
        self.assertEqual((paper.changes(), copied.changes()), (1, 0))


class Trying(Cases):
    def test_all_is_put_back(self):
        draw = random.Random(504)
        for _ in range(30):
            paper, plain = self.drawn(draw, 12)
            result = object()

            def action(inner):
                self.assertIs(inner, paper)
                twin = Plain(plain.many, plain.events)
                self.assert_same(inner, twin)
                for _ in range(draw.randrange(30)):
                    self.changed(draw, inner, twin)
                self.assert_same(inner, twin)
                return result

            self.assertIs(paper.trying(action), result)
            self.assert_same(paper, plain)
            for _ in range(3):
                self.changed(draw, paper, plain)
            self.assert_same(paper, plain)

    def test_taking_back_more_than_was_done(self):
        draw = random.Random(505)
        for _ in range(10):
            paper, plain = self.drawn(draw, 12)

            def action(inner):
                while inner.changes():
                    inner.back()
                self.assertEqual((inner.plan(), inner.view(0)), ((), ()))
                assert_error(self, NothingDone(), inner.back)
                inner.put(0, 0)

            self.assertIsNone(paper.trying(action))
            self.assert_same(paper, plain)
            while plain.events:
                plain.events.pop()
                paper.back()
                self.assert_same(paper, plain)

    def test_errors_go_on(self):
        draw = random.Random(506)
        for _ in range(10):
            paper, plain = self.drawn(draw, 12)
            error = Own("a")

            def action(inner):
                inner.put(0, 0)
                inner.meet(0, 1) if plain.many > 1 else inner.put(0, 0)
                if inner.changes() > 1:
                    inner.back()
                    inner.back()
                raise error

            with self.assertRaises(Own) as caught:
                paper.trying(action)
            self.assertIs(caught.exception, error)
            self.assert_same(paper, plain)
            for inner, wanted in [
                (lambda inner: inner.put(0, -1), NoNumber), (lambda inner: [inner.back() for _ in range(99)], NothingDone),
                (lambda inner: inner.put(9, 0), NoHand), (lambda inner: [inner.put(0, 0) for _ in range(41)], TooMany),
                (lambda inner: [][0], IndexError), (lambda inner: {}[inner.put(0, 0)], KeyError),
            ]:
                self.assertRaises(wanted, paper.trying, inner)
                self.assert_same(paper, plain)

    def test_stopping(self):
        paper = Paper(1)

        def action(inner):
            inner.put(0, 0)
            raise KeyboardInterrupt

        self.assertRaises(KeyboardInterrupt, paper.trying, action)
        self.assertEqual(paper.changes(), 0)

    def test_one_within_another(self):
        paper = Paper(2)
        paper.put(0, 0)

        def inner(one):
            one.put(0, 0)
            self.assertEqual(one.standing(), (2, 1, 0))
            one.back()
            one.back()
            return one.changes()

        def outer(one):
            one.put(0, 0)
            self.assertEqual(one.trying(inner), 1)
            self.assertEqual((one.standing(), one.changes()), ((1, 0), 2))
            self.assertRaises(NoNumber, one.trying, lambda other: other.put(0, 9))
            self.assertEqual(one.changes(), 2)
            return one.copy()

        copied = paper.trying(outer)
        self.assertEqual((paper.changes(), paper.standing()), (1, (0,)))
        # A copy that was made while trying is one of its own.
        self.assertEqual((copied.changes(), copied.standing()), (2, (1, 0)))

    def test_what_is_returned(self):
        paper = Paper(1)
        for thing in things():
            self.assertIs(paper.trying(lambda inner: thing), thing)
        self.assertEqual(paper.trying(lambda inner: (inner.put(0, 0), inner.names())), ((0,), ((0,),)))
        self.assertEqual(paper.trying(Paper.changes), 0)


class Refused(Cases):
    def test_hands_from_1_to_8(self):
        for thing in things() + list(range(-1, 11)):
            if type(thing) is int and 1 <= thing <= 8:
                self.assertEqual(len([Paper(thing).view(hand) for hand in range(thing)]), thing)
            else:
                assert_error(self, NoNumber(), Paper, thing)

    def test_things_of_every_kind(self):
        for many in (1, 2, 8):
            paper, plain = Paper(many), Plain(many)
            for events in range(3):
                for thing in things():
                    is_hand = type(thing) is int and 0 <= thing < many
                    if not is_hand:
                        assert_error(self, NoHand(), paper.put, thing, 0)
                        assert_error(self, NoHand(), paper.put, thing, None)
                        assert_error(self, NoHand(), paper.meet, thing, 0)
                        assert_error(self, NoHand(), paper.meet, 0, thing)
                        assert_error(self, NoHand(), paper.meet, thing, thing)
                        assert_error(self, NoHand(), paper.view, thing)
                    if not (type(thing) is int and 0 <= thing <= events):
                        assert_error(self, NoNumber(), paper.put, 0, thing)
                    assert_error(self, NoHand(), paper.put, many, thing)
                    assert_error(self, NoHand(), paper.meet, many, thing)
                for hand in range(many):
                    assert_error(self, NoHand(), paper.meet, hand, hand)
                self.assert_same(paper, plain)
                paper.put(0, 0)
                plain.events.append(("put", 0, 0))

    def test_gaps_of_the_view_of_the_hand(self):
        paper = Paper(3)
        for item in range(3):
            paper.put(0, item)
        for hand, most in [(0, 3), (1, 0), (2, 0)]:
            assert_error(self, NoNumber(), paper.put, hand, most + 1)
            assert_error(self, NoNumber(), paper.put, hand, -1)
            self.assertEqual(len(paper.trying(lambda inner: inner.put(hand, most))), 4 if hand == 0 else 1)
        paper.meet(1, 0)
        assert_error(self, NoNumber(), paper.put, 1, 4)
        self.assertEqual(paper.put(1, 3), (0, 1, 2, 3))

    def test_refused_calls_change_nothing(self):
        draw = random.Random(507)
        for _ in range(15):
            paper, plain = self.drawn(draw, 15)
            for _ in range(30):
                call = draw.choice([
                    lambda: paper.put(plain.many, 0), lambda: paper.put(-1, 0), lambda: paper.put(0, 41),
                    lambda: paper.put(0, None), lambda: paper.meet(0, 0), lambda: paper.meet(0, plain.many),
                    lambda: paper.meet(-1, 0), lambda: paper.view(plain.many)])
                self.assertRaises(BetweenError, call)
                self.assert_same(paper, plain)


if __name__ == "__main__":
    unittest.main()
