"""Texts [17.1, 17.4]: plans and days as lines, there and back, and the first line that is wrong."""

import random
import re
import unittest

from putbetween.days import day_plan
from putbetween.errors import BadText, NoDay
from putbetween.plans import all_plans
from putbetween.texts import day_text, plan_text, read_day, read_plan
from tests import plainly, strange
from tests.wrong import assert_error, things

NUMBER = "(0|[1-9][0-9]*)"
LINE = tuple(tuple(range(item)) for item in range(40))
APART = ((),) * 40


def plain_plan(text):
    """17.1: the plan of a text, or the line with which BadText is due."""
    if type(text) is not str:
        return 0
    *lines, rest = text.split("\n")
    plan = ()
    for at, line in enumerate(lines):
        if at == 40:
            return 41
        found = re.fullmatch(f"{NUMBER}:((?: {NUMBER})*)", line)
        if not found or found[1] != str(at):
            return at + 1
        words = found[2].split()
        if any(len(word) > 2 for word in words):
            return at + 1
        plan += (tuple(int(word) for word in words),)
        if not plainly.is_plan(plan):
            return at + 1
    return len(lines) + 1 if rest else plan


def plain_day(text):
    """17.4: the day of a text, or the line with which BadText is due, or None for NoDay(-1)."""
    if type(text) is not str:
        return 0
    *lines, rest = text.split("\n")
    day = []
    for at, line in enumerate(lines):
        found = re.fullmatch("(put) ([0-9]|1[0-5])", line) or re.fullmatch("(meet) ([0-9]|1[0-5]) ([0-9]|1[0-5])", line)
        if not found or len(set(found.groups()[1:])) < len(found.groups()[1:]):
            return at + 1
        day.append((found[1],) + tuple(int(hand) for hand in found.groups()[1:]))
    if rest:
        return len(lines) + 1
    return day if len(day) <= 60 and sum(event[0] == "put" for event in day) <= 40 else None


def changed_lines(draw, line):
    """The line made wrong, or other, in each way."""
    words = line.split(" ")
    at = draw.randrange(len(words))
    numbers = [place for place, word in enumerate(words) if re.fullmatch("[0-9]+:?", word)]
    found = [
        line + " ", " " + line, line.replace(" ", "  ", 1), line.replace(" ", "\t"), line + "\t", line + " 0", line + " 00",
        "", " ", line.upper(), line + ":", line + " x", line + " -1", line + " 99", line + " " + "9" * 5000, line + ",",
        line.replace(":", ""), line.replace(":", " :"), line.replace(":", ": "), line.replace(":", "::"), line + line,
        " ".join(words[:at] + words[at + 1:]), " ".join(words[:at] + [words[at]] + words[at:]), " ".join(words[::-1]),
        " ".join(words[:1] + words[:0:-1]), " ".join(words[:at] + [words[at] + words[at]] + words[at + 1:]), line[:-1],
        line[1:], line + "0", "0" * 5000 + line, "put", "meet", "put 0 1", "meet 0", "meet 0 1 2", "put 16", "meet 0 16",
        "meet 3 3", "put 015", "put -0", "put +1", "Put 0", "meet 1  2", "put", "put ", " put 0", "meet 15 14", "puts 0",
    ]
    for place in numbers:
        digits = words[place].rstrip(":")
        for other in ["0" + digits, "+" + digits, "-" + digits, digits + "0", digits + ".0", str(int(digits) + 1),
                      str(int(digits) - 1), "", digits + "_", hex(int(digits))]:
            found.append(" ".join(words[:place] + [other + words[place][len(digits):]] + words[place + 1:]))
    return found


class Cases(unittest.TestCase):
    def assert_plan(self, text):
        """Hold what is read of a text against the plain words; return what is due."""
        wanted = plain_plan(text)
        if type(wanted) is int:
            assert_error(self, BadText(wanted), read_plan, text)
        else:
            self.assertTrue(strange.same(read_plan(text), wanted), text)
        return wanted

    def assert_day(self, text):
        wanted = plain_day(text)
        if wanted is None:
            assert_error(self, NoDay(-1), read_day, text)
        elif type(wanted) is int:
            assert_error(self, BadText(wanted), read_day, text)
        else:
            self.assertTrue(strange.same(read_day(text), wanted), text)
        return wanted


class Plans(Cases):
    def test_ordinary(self):
        for plan, text in [
            ((), ""), (((),), "0:\n"), (((), (0,)), "0:\n1: 0\n"), (((), (0,), (0, 1)), "0:\n1: 0\n2: 0 1\n"),
            (((), (), (1,)), "0:\n1:\n2: 1\n"),
        ]:
            self.assertEqual(plan_text(plan), text)
            self.assertEqual(read_plan(text), plan)
        self.assertTrue(plan_text(LINE).endswith("\n39: " + " ".join(str(item) for item in range(39)) + "\n"))

    def test_there_and_back(self):
        plans = [plan for many in range(6) for plan in all_plans(many)]
        for plan in plans + plainly.drawn_plans(511, 60, 40) + [LINE, APART]:
            text = plan_text(plan)
            self.assertEqual(len(text.split("\n")), len(plan) + 1)
            for item, line in enumerate(text.split("\n")[:-1]):
                self.assertEqual(line, f"{item}:" + "".join(f" {seen}" for seen in plan[item]))
            self.assertTrue(strange.same(read_plan(text), plan))
            self.assertEqual(self.assert_plan(text), plan)

    def test_each_line_wrong_in_each_way(self):
        draw = random.Random(512)
        plans = [((),), ((), (0,)), ((), (0,), (0, 1)), ((), (), (0, 1), (0, 1, 2)), LINE[:12], LINE[:30]] + plainly.drawn_plans(513, 12, 14)
        told = set()
        for plan in plans:
            lines = plan_text(plan).split("\n")[:-1]
            for at in draw.sample(range(len(lines)), min(len(lines), 6)):
                for changed in changed_lines(draw, lines[at]):
                    text = "".join(line + "\n" for line in lines[:at] + [changed] + lines[at + 1:])
                    told.add(type(self.assert_plan(text)))
                    # With more wrong lines behind it, and something behind the last one.
                    more = lines[:at] + [changed] + draw.choices(["x", "", "0:", lines[0]], k=3) + lines[at + 1:]
                    self.assertEqual(self.assert_plan("\n".join(more) + "\nend") <= at + 2, True)
        self.assertEqual(told, {int, tuple})

    def test_lines_left_out_doubled_and_exchanged(self):
        draw = random.Random(514)
        for plan in plainly.drawn_plans(515, 20, 12) + [LINE]:
            lines = plan_text(plan).splitlines(keepends=True)
            for at in range(len(lines)):
                self.assert_plan("".join(lines[:at] + lines[at + 1:]))
                self.assert_plan("".join(lines[:at] + lines[at:at + 1] + lines[at:]))
                self.assert_plan("".join(lines[:at]))
                draw.shuffle(lines)
                self.assert_plan("".join(lines))

    def test_sights(self):
        for text, line in [
            ("0: 0\n", 1), ("0:\n1: 1\n", 2), ("0:\n1: 2\n", 2), ("0:\n1:\n2: 1 0\n", 3), ("0:\n1:\n2: 0 0\n", 3),
            ("0:\n1: 0\n2: 1\n", 3), ("0:\n1: 0\n2: 0 1\n3: 1 2\n", 4), ("0:\n1: 0\n2: 0 1\n3: 0 2\n", 4), ("1:\n", 1),
            ("0:\n0:\n", 2), ("0:\n2:\n", 2), ("00:\n", 1), ("0:\n01:\n", 2), ("0:\n1: 00\n", 2), ("0:\n1:0\n", 2),
            ("0:\n1: 0 \n", 2), ("0:\n1:  0\n", 2), ("0:\n1 : 0\n", 2), ("0: \n", 1), (" 0:\n", 1), ("0\n", 1), (":\n", 1),
            ("\n", 1), ("0:\n\n", 2), ("0:", 1), ("0:\n1: 0", 2), ("0:\n ", 2), ("x", 1), ("0:\n1: 1x", 2), ("-", 1), ("/", 1),
            ("0:\n1: -0\n", 2), ("0:\n1: +0\n", 2), ("0:\n1:\t0\n", 2), ("0:\n1: 0,\n", 2), ("0:\n1: 0\t\n", 2),
        ]:
            self.assertEqual(self.assert_plan(text), line)

    def test_40_lines_and_41(self):
        for plan in (LINE, APART):
            text = plan_text(plan)
            self.assertEqual(read_plan(text), plan)
            for more in ["40:", "40:\n", "x\n", "\n", " ", "x\ny\nz\n", "40:\n41:\n", "\n\n", "40:\nend", "x\ny"]:
                self.assertEqual(self.assert_plan(text + more), 41)
            early = text.replace("7:", "7;", 1)
            self.assertEqual(self.assert_plan(early), 8)
            self.assertEqual(self.assert_plan(early + "40:\n41:\nend"), 8)
            late = text[:-1] + "x\n"
            self.assertEqual(self.assert_plan(late), 40)
            self.assertEqual(self.assert_plan(late + "40:\nend"), 40)
            self.assertEqual(self.assert_plan(text[:-1]), 40)

    def test_great_numbers(self):
        for word in ["9" * 60, "9" * 5000, "0" * 5000, "1" + "0" * 5000, "4300" * 2000]:
            self.assertEqual(self.assert_plan(f"0:\n1: {word}\n"), 2)
            self.assertEqual(self.assert_plan(f"{word}:\n"), 1)
            self.assertEqual(self.assert_plan(f"0:\n1: 0{word}\n"), 2)

    def test_texts_of_few_signs(self):
        draw = random.Random(516)
        signs = ["0", "1", "2", ":", " ", "\n", "0:\n", "1:", "1: 0\n", "2: 0 1\n", "x", "-"]
        for _ in range(4000):
            self.assert_plan("".join(draw.choices(signs, k=draw.randrange(8))))

    def test_things_of_every_kind(self):
        for thing in things():
            if type(thing) is not str:
                assert_error(self, BadText(0), read_plan, thing)
                assert_error(self, BadText(0), read_day, thing)
            self.assert_plan(thing)


class Days(Cases):
    def test_ordinary(self):
        for day, text in [
            ([], ""), ([("put", 0)], "put 0\n"), ([("meet", 0, 15)], "meet 0 15\n"),
            ([("put", 0), ("put", 1), ("meet", 1, 0), ("put", 10)], "put 0\nput 1\nmeet 1 0\nput 10\n"),
        ]:
            self.assertEqual(day_text(day), text)
            self.assertEqual(day_text(tuple(day)), text)
            self.assertTrue(strange.same(read_day(text), day))

    def test_there_and_back(self):
        draw = random.Random(517)
        for events in list(range(61)) * 2:
            puts = draw.randrange(min(40, events) + 1)
            day = plainly.drawn_day(draw, events, puts, draw.randrange(2, 17))
            text = day_text(day)
            wanted = "".join(" ".join(str(part) for part in event) + "\n" for event in day)
            self.assertEqual(text, wanted)
            self.assertTrue(strange.same(read_day(text), list(day)))
            self.assertEqual(day_plan(read_day(text)), plainly.day_plan(day))

    def test_new_lists(self):
        for text in ["", "put 0\nmeet 0 1\n"]:
            found, other = read_day(text), read_day(text)
            found.append(("put", 5))
            self.assertEqual(read_day(text), other)

    def test_all_hands(self):
        for one in range(18):
            self.assertIs(type(self.assert_day(f"put {one}\n")), list if one < 16 else int)
            for other in range(18):
                told = self.assert_day(f"meet {one} {other}\n")
                self.assertIs(type(told), list if one < 16 and other < 16 and one != other else int)

    def test_each_line_wrong_in_each_way(self):
        draw = random.Random(518)
        told = set()
        for events in [1, 1, 2, 2, 3, 5, 10, 40, 60]:
            day = plainly.drawn_day(draw, events, min(events // 2 + 1, 40), 16)
            lines = day_text(day).split("\n")[:-1]
            for at in draw.sample(range(len(lines)), min(len(lines), 6)):
                for changed in changed_lines(draw, lines[at]):
                    text = "".join(line + "\n" for line in lines[:at] + [changed] + lines[at + 1:])
                    told.add(type(self.assert_day(text)))
                    more = lines[:at] + [changed] + draw.choices(["x", "", "put", "meet 1 1"], k=3) + lines[at + 1:]
                    self.assertLessEqual(self.assert_day("\n".join(more) + "\nend"), at + 2)
        self.assertEqual(told, {int, list})

    def test_something_behind_the_last_line_feed(self):
        for text, line in [("put 0", 1), ("put 0\nput 1", 2), ("x", 1), (" ", 1), ("put 0\n ", 2), ("put 0\nx\ny", 2),
                           ("\n", 1), ("put 0\n\n", 2), ("put 0\r\n", 1)]:
            self.assertEqual(self.assert_day(text), line)

    def test_60_events_and_61(self):
        meets = "meet 0 1\n" * 60
        self.assertEqual(len(read_day(meets)), 60)
        self.assertIsNone(self.assert_day(meets + "meet 0 1\n"))
        self.assertIsNone(self.assert_day(meets * 20))
        self.assertEqual(self.assert_day(meets * 2 + "meet 0 0\n"), 121)
        self.assertEqual(self.assert_day(meets * 2 + "meet 0 2"), 121)
        self.assertEqual(self.assert_day(meets + "put 16\n"), 61)
        self.assertEqual(self.assert_day(meets + "x"), 61)

    def test_40_puts_and_41(self):
        puts = "put 3\n" * 40
        self.assertEqual(len(read_day(puts)), 40)
        self.assertEqual(len(read_day(puts + "meet 0 1\n" * 20)), 60)
        self.assertIsNone(self.assert_day(puts + "put 3\n"))
        self.assertIsNone(self.assert_day(puts + "meet 0 1\n" * 20 + "put 0\n"))
        self.assertIsNone(self.assert_day("put 0\n" + "meet 0 1\n" * 19 + puts))
        self.assertEqual(self.assert_day(puts + "put 3\nput x\n"), 42)
        self.assertEqual(self.assert_day(puts + "put 3\nput 3"), 42)

    def test_texts_of_few_signs(self):
        draw = random.Random(519)
        signs = ["put", "meet", " ", "\n", "0", "1", "15", "16", "put 0\n", "meet 0 1\n", "x", "\t"]
        for _ in range(4000):
            self.assert_day("".join(draw.choices(signs, k=draw.randrange(9))))

    def test_no_days(self):
        for thing in things():
            index = plainly.day_fault(thing)
            if index is None:
                self.assertEqual(read_day(day_text(thing)), list(thing))
            else:
                assert_error(self, NoDay(index), day_text, thing)
        assert_error(self, NoDay(1), day_text, [("put", 0), ("put", 16)])
        assert_error(self, NoDay(-1), day_text, [("put", 0)] * 41)
        assert_error(self, NoDay(-1), day_text, [("meet", 0, 1)] * 61)


if __name__ == "__main__":
    unittest.main()
