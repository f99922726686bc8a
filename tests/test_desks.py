"""The desk [18]: what each line does and answers, what is refused, and what can be taken back."""

import random
import re
import unittest

from putbetween.chains import chains, ending
from putbetween.days import day_plan
from putbetween.desks import Desk
from putbetween.errors import (
    BadShape, BadText, BetweenError, NoChain, NoDay, NoLine, NoNumber, NoRun, NotKept, NothingDone, TooLarge)
from putbetween.likeness import sameness
from putbetween.lots import lots_needed
from putbetween.naming import names
from putbetween.plans import all_plans
from putbetween.ranks import chain_at, rank
from putbetween.shapes import plan_shape, read_shape
from putbetween.texts import day_text, plan_text, read_day, read_plan
from tests import plainly
from tests.test_shapes import drawn_shape
from tests.wrong import assert_error, things

NAME = "([a-z]{1,8})"
NUMBER = "(?:0|[1-9][0-9]{0,59})"
ITEMS = f"({NUMBER}(?:,{NUMBER})*)"

# The forms of 18.1.
FORMS = {
    "plan": f"plan {NAME} (.+)", "shape": f"shape {NAME} (.+)", "day": f"day {NAME} (.+)", "drop": f"drop {NAME}",
    "list": "list", "undo": "undo", "chains": f"chains {NAME}", "rank": f"rank {NAME} {ITEMS}",
    "chain": f"chain {NAME} ({NUMBER})", "ending": f"ending {NAME}", "lots": f"lots {NAME}", "same": f"same {NAME} {NAME}",
    "shaped": f"shaped {NAME}", "names": f"names {NAME} (-|{ITEMS[1:-1]})",
}

THREE = "0:/1: 0/2: 0 1/"


def numbers_of(text):
    return () if text == "-" else tuple(int(part) for part in text.split(","))


def joined(words):
    return " ".join(words) if words else "none"


def with_commas(items):
    return ",".join(str(item) for item in items)


class Plain:
    """A desk by the plain words of the document: what is kept, and all that was kept ahead of each line."""

    def __init__(self):
        self.kept = {}
        self.elder = []

    def tell(self, line):
        """The answer, or the error."""
        if type(line) is not str or "\n" in line:
            raise NoLine()
        for word, form in FORMS.items():
            found = re.fullmatch(form, line)
            if found:
                return getattr(self, "tell_" + word)(*found.groups())
        raise NoLine()

    def plan(self, name):
        if name not in self.kept:
            raise NotKept(name)
        return self.kept[name]

    def change(self, kept):
        self.elder.append(self.kept)
        self.kept = kept
        return "ok"

    def tell_plan(self, name, text):
        plan = read_plan("" if text == "-" else text.replace("/", "\n"))
        return self.change({**self.kept, name: plan})

    def tell_shape(self, name, text):
        return self.change({**self.kept, name: read_shape(text.replace("/", "\n"))})

    def tell_day(self, name, text):
        day = read_day("" if text == "-" else text.replace("/", "\n"))
        return self.change({**self.kept, name: day_plan(day)})

    def tell_drop(self, name):
        self.plan(name)
        return self.change({other: plan for other, plan in self.kept.items() if other != name})

    def tell_undo(self):
        if not self.elder:
            raise NothingDone()
        self.kept = self.elder.pop()
        return "ok"

    def tell_list(self):
        return joined(sorted(self.kept))

    def tell_chains(self, name):
        return str(chains(self.plan(name)))

    def tell_rank(self, name, items):
        return str(rank(self.plan(name), numbers_of(items)))

    def tell_chain(self, name, number):
        return with_commas(chain_at(self.plan(name), int(number)))

    def tell_ending(self, name):
        return joined([str(many) for many in ending(self.plan(name))])

    def tell_lots(self, name):
        return str(lots_needed(self.plan(name)))

    def tell_same(self, name, other):
        one = self.plan(name)
        return "no" if sameness(one, self.plan(other)) is None else "yes"

    def tell_shaped(self, name):
        shape = plan_shape(self.plan(name))
        return "none" if shape is None else shape

    def tell_names(self, name, items):
        return joined([with_commas(chain) for chain in names(self.plan(name), numbers_of(items))])


def line_of(text):
    """A text as it stands in a line."""
    return text.replace("\n", "/") or "-"


def drawn_line(draw, plain):
    """A line that often can be done."""
    name = draw.choice(sorted(plain.kept) * 3 + ["a", "b", "abcdefgh", "z"])
    other = draw.choice(sorted(plain.kept) * 3 + ["a", "b", "c"])
    plan = plain.kept.get(name, ())
    numbers = [str(draw.randrange(5)) for _ in range(draw.randrange(1, 4))]
    run = [str(draw.randrange(len(row) + 1)) for row in plan]
    return draw.choice([
        f"plan {name} {line_of(plan_text(plainly.drawn_plan(draw, draw.randrange(7))))}",
        f"plan {name} {line_of(plan_text(plainly.near_plan(draw, draw.randrange(12))))}",
        f"shape {name} {drawn_shape(draw, draw.randrange(1, 9))}",
        f"day {name} {line_of(day_text(plainly.drawn_day(draw, draw.randrange(9), 0, 4)))}",
        f"day {name} {line_of(day_text(plainly.drawn_day(draw, 9, draw.randrange(9), 4)))}",
        f"drop {name}", f"drop {name}", "list", "undo", "undo", "undo", f"chains {name}", f"ending {name}", f"lots {name}",
        f"rank {name} {','.join(sorted(numbers))}", f"rank {name} {','.join(numbers)}", f"same {name} {other}",
        f"chain {name} {draw.randrange(12)}", f"shaped {name}", f"names {name} {','.join(run) or '-'}",
        f"names {name} {','.join(numbers)}", f"names {name} -",
    ])


def changed_line(draw, line):
    """The line with a sign more, less or other, or with another word."""
    at = draw.randrange(len(line) + 1)
    sign = draw.choice([" ", " ", "0", "1", ",", "-", "/", ":", "a", "A", "\n", "\t", ".", ">", "(", ""])
    words = line.split(" ")
    place = draw.randrange(len(words))
    return draw.choice([
        line[:at] + sign + line[at:], line[:at] + line[at + 1:], line[:at] + sign + line[at + 1:],
        " ".join(words[:place] + words[place + 1:]), " ".join(words[:place] + [draw.choice(sorted(FORMS))] + words[place + 1:]),
        " ".join(words[:place] + words[place:place + 1] * 2 + words[place + 1:]), " ".join(words[::-1]), line.upper(),
    ])


class Cases(unittest.TestCase):
    def assert_told(self, desk, plain, line):
        """Hold what the desk answers to a line against the plain words; return the answer, or the error's class."""
        try:
            wanted = plain.tell(line)
        except BetweenError as error:
            wanted = error
        if isinstance(wanted, BetweenError):
            assert_error(self, wanted, desk.tell, line)
        else:
            self.assertEqual(desk.tell(line), wanted, line)
        self.assert_same(desk, plain)
        return wanted if isinstance(wanted, str) else type(wanted)

    def assert_same(self, desk, plain):
        self.assertEqual(desk.undoable(), len(plain.elder))
        self.assertEqual(desk.tell("list"), joined(sorted(plain.kept)))
        for name, plan in plain.kept.items():
            self.assertEqual(desk.tell(f"chains {name}"), str(chains(plan)))
            self.assertEqual(desk.tell(f"ending {name}"), joined([str(many) for many in ending(plan)]))

    def told(self, *lines):
        """What a new desk answers to the last of these lines."""
        desk = Desk()
        for line in lines[:-1]:
            self.assertEqual(desk.tell(line), "ok")
        return desk.tell(lines[-1])

    def assert_refused(self, error, *lines):
        """Hold that a new desk refuses the last of these lines, and is as it was."""
        desk = Desk()
        for line in lines[:-1]:
            self.assertEqual(desk.tell(line), "ok")
        before = desk.tell("list"), desk.undoable()
        assert_error(self, error, desk.tell, lines[-1])
        self.assertEqual((desk.tell("list"), desk.undoable()), before)


class Answers(Cases):
    def test_ordinary(self):
        desk = Desk()
        for line, answer in [
            ("list", "none"), (f"plan a {THREE}", "ok"), ("list", "a"), ("chains a", "7"), ("rank a 0,2", "4"),
            ("chain a 4", "0,2"), ("chain a 0", "2"), ("ending a", "1 2 4"), ("lots a", "6"), ("names a 0,0,1", "0 1 1,2"),
            ("shape b .>.>.", "ok"), ("same a b", "yes"), ("day c put 0/put 1/meet 0 1/put 0/", "ok"), ("same c a", "no"),
            ("chains c", "5"), ("list", "a b c"), ("drop b", "ok"), ("list", "a c"), ("undo", "ok"), ("list", "a b c"),
            ("plan d 0:/1:/2: 0 1/3: 1/", "ok"), ("shaped d", "none"), ("shaped c", "(.|.)>."), ("undo", "ok"), ("list", "a b c"),
        ]:
            self.assertEqual(desk.tell(line), answer, line)
        self.assertEqual(desk.undoable(), 3)

    def test_questions_against_the_functions(self):
        plans = [plan for many in range(4) for plan in all_plans(many)] + plainly.drawn_plans(531, 25, 9)
        desk = Desk()
        for plan in plans:
            self.assertEqual(desk.tell(f"plan x {line_of(plan_text(plan))}"), "ok")
            self.assertEqual(desk.tell("chains x"), str(chains(plan)))
            self.assertEqual(desk.tell("ending x"), joined([str(many) for many in ending(plan)]))
            self.assertEqual(desk.tell("lots x"), str(lots_needed(plan)))
            shape = plan_shape(plan)
            self.assertEqual(desk.tell("shaped x"), shape or "none")
            if shape:
                self.assertEqual(desk.tell(f"shape y {shape}"), "ok")
                self.assertEqual(desk.tell("same x y"), "yes")
            for number in range(min(chains(plan), 40)):
                chain = chain_at(plan, number)
                self.assertEqual(desk.tell(f"chain x {number}"), with_commas(chain))
                self.assertEqual(desk.tell(f"rank x {with_commas(chain)}"), str(number))
            for run in plainly.all_runs(plan)[:20]:
                wanted = joined([with_commas(chain) for chain in names(plan, run)])
                self.assertEqual(desk.tell(f"names x {with_commas(run) or '-'}"), wanted)

    def test_40_items(self):
        draw = random.Random(532)
        line = tuple(tuple(range(item)) for item in range(40))
        for plan in [line, ((),) * 40] + [plainly.near_plan(draw, 40) for _ in range(3)]:
            run = plainly.drawn_run(draw, plan)
            told = line_of(plan_text(plan))
            self.assertEqual(self.told(f"plan long {told}", "chains long"), str(chains(plan)))
            self.assertEqual(self.told(f"plan long {told}", f"chain long {chains(plan) - 1}"),
                             with_commas(chain_at(plan, chains(plan) - 1)))
            wanted = " ".join(with_commas(chain) for chain in names(plan, run))
            self.assertEqual(self.told(f"plan long {told}", f"names long {with_commas(run)}"), wanted)

    def test_plans_shapes_and_days_without_anything(self):
        for line in ["plan e -", "day e -", "day e meet 0 1/"]:
            for question, answer in [("chains e", "0"), ("ending e", "none"), ("lots e", "0"), ("shaped e", "none"),
                                     ("names e -", "none"), ("same e e", "yes"), ("list", "e")]:
                self.assertEqual(self.told(line, question), answer)
            self.assert_refused(NoNumber(), line, "chain e 0")
            self.assert_refused(NoChain(), line, "rank e 0")
            self.assert_refused(NoRun(), line, "names e 0")
        self.assert_refused(BadShape(0), "shape e -")

    def test_list(self):
        desk = Desk()
        kept = []
        for name in ["b", "a", "aa", "z", "abcdefgh", "ab", "b"]:
            self.assertEqual(desk.tell(f"shape {name} ."), "ok")
            kept = sorted({*kept, name})
            self.assertEqual(desk.tell("list"), " ".join(kept))
        for name in list(kept):
            self.assertEqual(desk.tell(f"drop {name}"), "ok")
            kept.remove(name)
            self.assertEqual(desk.tell("list"), " ".join(kept) or "none")

    def test_commands_may_be_names(self):
        for name in FORMS:
            self.assertEqual(self.told(f"shape {name} 3.", f"chains {name}"), "7")
            self.assertEqual(self.told(f"shape {name} 3.", "list"), name)
            self.assertEqual(self.told(f"plan {name} 0:/", f"names {name} 0"), "0")

    def test_same(self):
        self.assertEqual(self.told("shape a .|.>.", "plan b 0:/1:/2: 0/", "same a b"), "yes")
        self.assertEqual(self.told("shape a .|.>.", "plan b 0:/1:/2: 0 1/", "same a b"), "no")
        self.assertEqual(self.told("shape a 3.", "shape b 4.", "same b a"), "no")
        self.assertEqual(self.told("shape a 9.", "same a a"), "yes")
        self.assert_refused(TooLarge(9), "shape a 9.", "shape b 10.", "same a b")
        self.assert_refused(TooLarge(9), "shape a 9.", "shape b 10.", "same b a")


class Changes(Cases):
    def test_keeping_in_the_place_of_an_elder_plan(self):
        desk = Desk()
        for line, answer in [("shape a 2.", "3"), ("plan a 0:/", "1"), ("day a put 0/put 0/put 0/", "7"), ("plan a -", "0")]:
            self.assertEqual(desk.tell(line), "ok")
            self.assertEqual(desk.tell("chains a"), answer)
        self.assertEqual(desk.undoable(), 4)
        for answer in ["7", "1", "3"]:
            self.assertEqual(desk.tell("undo"), "ok")
            self.assertEqual(desk.tell("chains a"), answer)
        self.assertEqual(desk.tell("undo"), "ok")
        assert_error(self, NotKept("a"), desk.tell, "chains a")
        assert_error(self, NothingDone(), desk.tell, "undo")
        self.assertEqual((desk.undoable(), desk.tell("list")), (0, "none"))

    def test_undo_of_a_drop(self):
        desk = Desk()
        for line in ["shape a 3.", "shape b 2.", "drop a", "shape a .", "drop a"]:
            self.assertEqual(desk.tell(line), "ok")
        for many, kept, told in [(4, "a b", "1"), (3, "b", None), (2, "a b", "7"), (1, "a", "7"), (0, "none", None)]:
            self.assertEqual(desk.tell("undo"), "ok")
            self.assertEqual((desk.undoable(), desk.tell("list")), (many, kept))
            if told is None:
                assert_error(self, NotKept("a"), desk.tell, "chains a")
            else:
                self.assertEqual(desk.tell("chains a"), told)
        assert_error(self, NothingDone(), desk.tell, "undo")

    def test_questions_and_refused_lines_cannot_be_taken_back(self):
        desk = Desk()
        desk.tell("shape a 3.")
        for line in ["list", "chains a", "rank a 0,2", "chain a 0", "ending a", "lots a", "same a a", "shaped a", "names a 0,0,0"]:
            desk.tell(line)
            self.assertEqual(desk.undoable(), 1)
        for line in ["drop b", "shape a", "shape a x", "plan a 0", "day a put", "day a " + "put 0/" * 41, "rank a 1,0", "chain a 7",
                     "names a -", "shape a 41.", "shape a 40.|.", None, "undo a", "shape A .", "drop", "plan a 1:/", "shape b .\n"]:
            self.assertRaises(BetweenError, desk.tell, line)
            self.assertEqual((desk.undoable(), desk.tell("list"), desk.tell("chains a")), (1, "a", "7"))
        desk.tell("undo")
        self.assertEqual((desk.undoable(), desk.tell("list")), (0, "none"))

    def test_many_lines(self):
        desk = Desk()
        for many in range(500):
            self.assertEqual(desk.tell(f"shape a {many % 40 + 1}."), "ok")
        for many in reversed(range(500)):
            self.assertEqual(desk.tell("chains a"), str(2 ** (many % 40 + 1) - 1))
            self.assertEqual(desk.tell("undo"), "ok")
            self.assertEqual(desk.undoable(), many)
        assert_error(self, NothingDone(), desk.tell, "undo")

    def test_drawn_lines(self):
        draw = random.Random(533)
        told = {}
        for _ in range(40):
            desk, plain = Desk(), Plain()
            for _ in range(150):
                line = drawn_line(draw, plain)
                if draw.randrange(3) == 0:
                    line = changed_line(draw, line)
                answer = self.assert_told(desk, plain, line)
                told.setdefault(line.split(" ")[0], set()).add(answer)
        for command in FORMS:
            self.assertGreaterEqual(len(told[command]), 2, command)
        met = set().union(*told.values())
        self.assertLessEqual({NoLine, BadText, BadShape, NotKept, NoChain, NoNumber, NoRun, NothingDone, "ok", "none"}, met)

    def test_two_desks_beside_each_other(self):
        draw = random.Random(534)
        pairs = [(Desk(), Plain()), (Desk(), Plain())]
        for _ in range(150):
            desk, plain = draw.choice(pairs)
            self.assert_told(desk, plain, drawn_line(draw, plain))
            for desk, plain in pairs:
                self.assert_same(desk, plain)


class Lines(Cases):
    def test_names_of_1_letter_and_8(self):
        for name in ["a", "z", "abcdefgh", "zzzzzzzz"]:
            self.assertEqual(self.told(f"shape {name} .", f"plan {name} 0:/", f"day {name} put 0/", f"chains {name}"), "1")
            self.assert_refused(NotKept(name), f"chains {name}")
        for name in ["", "abcdefghi", "A", "aB", "a1", "1", "-", "a-", "a_", "{", "`", "a.", "a,b", "a\t", "\ta"]:
            for line in ["plan {} 0:/", "shape {} .", "day {} -", "drop {}", "chains {}", "rank {} 0", "chain {} 0", "ending {}",
                         "lots {}", "same {} a", "same a {}", "shaped {}", "names {} 0", "names {} -"]:
                self.assert_refused(NoLine(), "shape a .", line.format(name))

    def test_blanks(self):
        for line in ["plan a 0:/", "shape a .", "day a -", "drop a", "list", "undo", "chains a", "rank a 0", "chain a 0", "ending a",
                     "lots a", "same a a", "shaped a", "names a 0"]:
            self.assertIs(type(self.told("shape a .", line)), str)
            words = line.split(" ")
            lines = [" " + line, "\t" + line, line.replace(" ", "\t") if len(words) > 1 else line + "\t"]
            lines += [line.replace(" ", "  ", 1) if len(words) > 1 else line + "  "]
            if words[0] not in ("plan", "shape", "day"):
                lines += [line + " ", line + "\t", line + "  ", " ".join(words + ["a"]), "  ".join(words) + " "]
            lines += [line + "\n", "\n" + line, line.replace(" ", "\n", 1) + "\n", line.upper(), line.capitalize()]
            lines += [" ".join(words[:many]) for many in range(len(words))] + [words[0] + " "]
            for changed in lines:
                if changed != line and not re.fullmatch("list|undo", changed):
                    self.assert_refused(NoLine(), "shape a .", changed)

    def test_blanks_in_texts(self):
        for line, error in [
            ("plan a  ", BadText(1)), ("plan a  0:/", BadText(1)), ("plan a 0:/ ", BadText(2)), ("plan a 0:/1:  0/", BadText(2)),
            ("plan a 0:/1: 0 /", BadText(2)), ("shape a  .", BadShape(0)), ("shape a . ", BadShape(1)), ("shape a .> .", BadShape(2)),
            ("shape a  ", BadShape(0)), ("day a  ", BadText(1)), ("day a  put 0/", BadText(1)), ("day a put  0/", BadText(1)),
            ("day a put 0/ ", BadText(2)), ("day a put 0 /", BadText(1)), ("plan a \t", BadText(1)), ("shape a \t", BadShape(0)),
        ]:
            self.assert_refused(error, line)
        for line in ["plan a ", "shape a ", "day a ", "plan a", "shape a", "day a", "plan", "shape", "day"]:
            self.assert_refused(NoLine(), line)

    def test_texts(self):
        for line, error in [
            ("plan a /", BadText(1)), ("plan a 0:", BadText(1)), ("plan a 0:/1: 0", BadText(2)), ("plan a 0://", BadText(2)),
            ("plan a --", BadText(1)), ("plan a -/", BadText(1)), ("plan a 0:/-", BadText(2)), ("plan a 0:/1: 0/2: 1/", BadText(3)),
            ("plan a 00:/", BadText(1)), ("plan a " + "".join(f"{item}:/" for item in range(41)), BadText(41)), ("plan a .", BadText(1)),
            ("shape a /", BadShape(0)), ("shape a ./", BadShape(1)), ("shape a .|", BadShape(2)), ("shape a 0.", BadShape(0)),
            ("shape a (.", BadShape(2)), ("shape a 41.", BadShape(1)), ("shape a 40.>.", TooLarge(40)), ("shape a 0:/", BadShape(0)),
            ("day a /", BadText(1)), ("day a put 0", BadText(1)), ("day a put 16/", BadText(1)), ("day a meet 0 0/", BadText(1)),
            ("day a -/", BadText(1)), ("day a --", BadText(1)), ("day a put 0/put 1/meet 0 1", BadText(3)), ("day a put 0/-", BadText(2)),
            ("day a " + "put 0/" * 41, NoDay(-1)), ("day a " + "meet 0 1/" * 61, NoDay(-1)), ("day a " + "put 0/" * 41 + "x", BadText(42)),
        ]:
            self.assert_refused(error, line)
            self.assert_refused(error, "shape a .", line)

    def test_numbers(self):
        longest = "9" * 60
        for line, error in [
            (f"chain a {longest}", NoNumber()), (f"rank a {longest}", NoChain()), (f"names a {longest}", NoRun()),
            (f"rank a 0,{longest}", NoChain()), (f"names a 0,{longest}", NoRun()), (f"chain a 1{'0' * 59}", NoNumber()),
        ]:
            self.assert_refused(error, "shape a 2.", line)
        for number in [longest + "9", "1" + "0" * 60, "00", "01", "-1", "+1", "1.0", "", " 1", "1_0", "0x1", "a", "1e3", "0" * 61,
                       "-0", "1-", "9" * 5000, "0" * 60]:
            for line in ["chain a {}", "rank a {}", "names a {}", "rank a 0,{}", "names a 0,{}", "rank a {},1", "names a {},0"]:
                self.assert_refused(NoLine(), "shape a 2.", line.format(number))

    def test_items(self):
        for items in [",", "0,", ",0", "0,,1", ",,", "0, 1", "0 ,1", "0 1", "0;1", "0,1,", "0,-", "-,0", "--", "-0", "0,01", "(0,1)"]:
            self.assert_refused(NoLine(), "shape a 2.", f"rank a {items}")
            self.assert_refused(NoLine(), "shape a 2.", f"names a {items}")
        for line in ["rank a -", "chain a -", "chain a 0,1", "chain a 0,", "drop -", "chains -", "same - a", "list -", "undo -"]:
            self.assert_refused(NoLine(), "shape a 2.", line)
        for line, error in [("rank a 1,0", NoChain()), ("rank a 0,0", NoChain()), ("rank a 2", NoChain()), ("names a -", NoRun()),
                            ("names a 0", NoRun()), ("names a 0,2", NoRun()), ("names a 0,0,0", NoRun()), ("chain a 3", NoNumber())]:
            self.assert_refused(error, "shape a 2.", line)
        self.assert_refused(NoChain(), "shape a 2.", "rank a " + ",".join(["0"] * 3000))
        self.assert_refused(NoRun(), "shape a 2.", "names a " + ",".join(["0"] * 3000))

    def test_which_error_comes_first(self):
        for line, error in [
            ("chain b 99", NotKept("b")), ("rank b 1,0", NotKept("b")), ("names b 9,9", NotKept("b")), ("same b c", NotKept("b")),
            ("same a c", NotKept("c")), ("same b a", NotKept("b")), ("same c b", NotKept("c")), ("same long c", NotKept("c")),
            ("rank b 01", NoLine()), ("chain b 0,1", NoLine()), ("same b C", NoLine()), ("drop b", NotKept("b")),
            ("same long a", TooLarge(9)), ("same a long", TooLarge(9)), ("plan b 9:/", BadText(1)), ("shape B x", NoLine()),
        ]:
            self.assert_refused(error, "shape a 2.", "shape long 10.", line)

    def test_things_of_every_kind(self):
        for thing in things():
            for lines in [(), ("shape a 2.", "drop a")]:
                self.assert_refused(NoLine(), *lines, thing)
        for line in ["", " ", "  ", "\n", "\t", "plans a 0:/", "lists", "help", "chains a b", "drop a b", "same a", "same a a a", "list a",
                     "undo 1", "ok", "none", "names a", "rank a", "chain a", "shaped", "a", "a .", "-", "chains a\n", "plan a 0:\n"]:
            self.assert_refused(NoLine(), "shape a 2.", line)


if __name__ == "__main__":
    unittest.main()
