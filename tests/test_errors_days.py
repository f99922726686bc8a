"""Which error each call about days raises [2], whatever is passed, and which one comes first."""

import unittest

from putbetween.days import day_hands, day_plan, left_out, meet_costs, rounds
from putbetween.errors import NoDay, NoNumber, TooLarge, TooMany
from tests import plainly
from tests.wrong import assert_error, things, with_things

GOOD_DAYS = [[], (("put", 0),), [("put", 0), ("meet", 0, 1), ("put", 1)], (("meet", 15, 0), ("put", 15))]
MEETS = [("meet", 0, 1)]


def is_number(least, most, thing):
    return type(thing) is int and least <= thing <= most


class NoDays(unittest.TestCase):
    def assert_judged(self, day):
        """Hold that the functions take just what the document calls a day."""
        index = plainly.day_fault(day)
        if index is not None:
            for function in (day_plan, day_hands, meet_costs):
                assert_error(self, NoDay(index), function, day)
            assert_error(self, NoDay(index), left_out, day, 5)
            assert_error(self, NoDay(index), left_out, day, None)
        else:
            self.assertEqual(day_plan(day), plainly.day_plan(day))
            self.assertEqual(len(day_hands(day)), len(day_plan(day)))

    def test_any_thing_in_any_place(self):
        for good in GOOD_DAYS:
            for day in with_things(good):
                self.assert_judged(day)

    def test_words_of_other_kinds(self):
        for word in ["Put", "put ", "", "meets", "meet", b"put", "p", None, ("put",), ["put"], "hand"]:
            self.assert_judged([("put", 0), (word, 1)])
        for word in ["Meet", "put", b"meet", "met", None, 0]:
            self.assert_judged([("meet", 1, 2), (word, 1, 2), (word, 1)])

    def test_events_of_other_lengths_and_kinds(self):
        for event in [(), ("put",), ("meet",), ("put", 0, 1), ("meet", 0), ("meet", 0, 1, 2), ["put", 0],
                      ["meet", 0, 1], "put", {"put": 0}, ("put", (0,)), ("meet", (0, 1)), ("meet", 0, (1,))]:
            assert_error(self, NoDay(0), day_plan, [event])
            assert_error(self, NoDay(2), day_plan, (("put", 0), ("meet", 1, 2), event, event))

    def test_hands(self):
        for hand in things() + list(range(-2, 18)):
            for event in [("put", hand), ("meet", hand, 3), ("meet", 3, hand)]:
                if is_number(0, 15, hand) and (hand != 3 or event[0] == "put"):
                    self.assertEqual(len(day_plan([event])), int(event[0] == "put"))
                else:
                    assert_error(self, NoDay(0), day_plan, [event])
                    assert_error(self, NoDay(1), day_plan, [("put", 0), event])
        for hand in range(16):
            assert_error(self, NoDay(0), meet_costs, [("meet", hand, hand)])

    def test_60_events_and_61(self):
        for kind in (list, tuple):
            self.assertEqual(len(meet_costs(kind(MEETS * 60))), 60)
            assert_error(self, NoDay(-1), meet_costs, kind(MEETS * 61))
            assert_error(self, NoDay(-1), day_plan, kind([None] * 61))
            assert_error(self, NoDay(0), day_plan, kind([None] * 60))
            assert_error(self, NoDay(59), day_plan, kind(MEETS * 59 + [None]))
            assert_error(self, NoDay(-1), day_plan, kind(MEETS * 9999))

    def test_40_puts_and_41(self):
        self.assertEqual(len(day_plan([("put", 0)] * 40 + MEETS * 20)), 40)
        assert_error(self, NoDay(-1), day_plan, [("put", 0)] * 41)
        assert_error(self, NoDay(-1), day_hands, tuple(MEETS * 19 + [("put", 15)] * 41))

    def test_41_puts_are_told_ahead_of_the_first_thing_that_is_no_event(self):
        assert_error(self, NoDay(-1), day_plan, [None] + [("put", 0)] * 41)
        assert_error(self, NoDay(0), day_plan, [None] + [("put", 0)] * 40)
        # What is no put event does not count as one.
        assert_error(self, NoDay(40), day_plan, [("put", 0)] * 40 + [("put", 16)])
        assert_error(self, NoDay(0), day_plan, [("put", True)] + [("put", 0)] * 40)
        assert_error(self, NoDay(40), day_plan, [("put", 0)] * 40 + [["put", 0]] * 20)


class Numbers(unittest.TestCase):
    def test_hands_and_times(self):
        for thing in things():
            if not is_number(0, 40, thing):
                for good in (0, 1, 40):
                    assert_error(self, NoNumber(), rounds, thing, good)
                    assert_error(self, NoNumber(), rounds, good, thing)
                assert_error(self, NoNumber(), rounds, thing, thing)
        for hands, times in [(41, 0), (0, 41), (-1, 0), (0, -1), (41, 41), (40, 41), (41, 40), (40, -1)]:
            assert_error(self, NoNumber(), rounds, hands, times)

    def test_too_large(self):
        for hands in range(41):
            for times in range(41):
                if hands * times > 40:
                    assert_error(self, TooLarge(40), rounds, hands, times)
                else:
                    self.assertEqual(len(rounds(hands, times)), hands * times)

    def test_most(self):
        for day in [[], MEETS * 10, MEETS * 11, (("put", 0),)]:
            for thing in things():
                if type(thing) is not int or thing < 0:
                    assert_error(self, NoNumber(), left_out, day, thing)
        self.assertEqual(left_out(MEETS, 10 ** 60 - 1), ())
        self.assertEqual(left_out(MEETS, 0), ())

    def test_10_meets_and_11(self):
        self.assertEqual(left_out(MEETS * 10, 0), ())
        assert_error(self, TooMany(10), left_out, MEETS * 11, 0)
        assert_error(self, TooMany(10), left_out, tuple([("put", 0)] * 40 + MEETS * 11), 10 ** 60 - 1)
        self.assertEqual(left_out([("put", 0)] * 40 + MEETS * 10, 2 ** 40), ())


if __name__ == "__main__":
    unittest.main()
