"""The desk: plans that are kept under names, and what is told of them, line by line."""

from putbetween.chains import chains, ending
from putbetween.days import day_plan
from putbetween.errors import NoLine, NotKept, NothingDone
from putbetween.kinds import is_word
from putbetween.likeness import sameness
from putbetween.lots import lots_needed
from putbetween.naming import names
from putbetween.ranks import chain_at, rank
from putbetween.shapes import plan_shape, read_shape
from putbetween.texts import read_day, read_plan

MOST_DIGITS = 60

# What stands behind the first word of each line. GAPS are ITEMS, or "-" for none.
FORMS = {
    "plan": ("NAME", "TEXT"),
    "shape": ("NAME", "TEXT"),
    "day": ("NAME", "TEXT"),
    "drop": ("NAME",),
    "list": (),
    "undo": (),
    "chains": ("NAME",),
    "rank": ("NAME", "ITEMS"),
    "chain": ("NAME", "NUMBER"),
    "ending": ("NAME",),
    "lots": ("NAME",),
    "same": ("NAME", "NAME"),
    "shaped": ("NAME",),
    "names": ("NAME", "GAPS"),
}
NOTHING = "-"


class Desk:
    """Some plans under names, and what was done to them."""

    def __init__(self):
        self._kept = {}
        # For each line that can be taken back its name, and what was kept under it ahead of the line, or None.
        self._done = []

    def tell(self, line):
        """Do what a line asks for, and answer it."""
        words = read_line(line)
        command = words[0]
        if command == "list":
            return spaced(sorted(self._kept))
        if command == "undo":
            return self._undo()
        if command in ("plan", "shape", "day"):
            return self._keep(words[1], read_kept(command, words[2]))
        # All other lines, drop lines too, are about a name that is kept.
        plan = self._plan(words[1])
        if command == "drop":
            return self._keep(words[1], None)
        if command == "same":
            return "no" if sameness(plan, self._plan(words[2])) is None else "yes"
        return answer(command, plan, read_numbers(words[2:]))

    def undoable(self):
        """How many lines can be taken back."""
        return len(self._done)

    def _plan(self, name):
        """The plan under a name; NotKept is raised if there is none."""
        if name not in self._kept:
            raise NotKept(name)
        return self._kept[name]

    def _keep(self, name, plan):
        """Keep a plan under a name, or none, so that it can be taken back."""
        self._done.append((name, self._kept.get(name)))
        self._set(name, plan)
        return "ok"

    def _undo(self):
        """Take back the last line that can be taken back."""
        if self.undoable() == 0:
            raise NothingDone()
        name, plan = self._done.pop()
        self._set(name, plan)
        return "ok"

    def _set(self, name, plan):
        """Let a plan be kept under a name, or none."""
        if plan is None:
            self._kept.pop(name, None)
        else:
            self._kept[name] = plan


def read_line(line):
    """The list of the words of a line; NoLine is raised for what has none of the forms."""
    if not isinstance(line, str) or "\n" in line:
        raise NoLine()
    command = line.split(" ")[0]
    if command not in FORMS:
        raise NoLine()
    forms = FORMS[command]
    # A text may have blanks in it.
    words = line.split(" ", len(forms)) if "TEXT" in forms else line.split(" ")
    if len(words) != len(forms) + 1:
        raise NoLine()
    if not all([has_form(form, word) for form, word in zip(forms, words[1:])]):
        raise NoLine()
    return words


def has_form(form, word):
    """Whether a word of a line is of such a form."""
    if form == "NAME":
        return is_word(word)
    if form == "NUMBER":
        return is_numeral(word)
    if form == "TEXT":
        return word != ""
    if form == "GAPS" and word == NOTHING:
        return True
    return all([is_numeral(part) for part in word.split(",")])


def is_numeral(word):
    """Whether a word is a decimal number without needless zeros, not too long."""
    if not 1 <= len(word) <= MOST_DIGITS or word[0] == "0" and word != "0":
        return False
    return all(["0" <= sign <= "9" for sign in word])


def read_numbers(words):
    """The numbers in the last word of a question, if there is one."""
    if words == [] or words[0] == NOTHING:
        return ()
    return tuple([int(part) for part in words[0].split(",")])


def read_kept(command, text):
    """The plan that a line brings."""
    if command == "shape":
        return read_shape(text)
    lines = "" if text == NOTHING else text.replace("/", "\n")
    return read_plan(lines) if command == "plan" else day_plan(read_day(lines))


def answer(command, plan, numbers):
    """What is told of a plan, and of the numbers of the question."""
    if command == "chains":
        return str(chains(plan))
    if command == "rank":
        return str(rank(plan, numbers))
    if command == "chain":
        return items_text(chain_at(plan, numbers[0]))
    if command == "ending":
        return spaced([str(many) for many in ending(plan)])
    if command == "lots":
        return str(lots_needed(plan))
    if command == "shaped":
        return plan_shape(plan) or "none"
    return spaced([items_text(chain) for chain in names(plan, numbers)])


def items_text(items):
    """The items with commas between."""
    return ",".join([str(item) for item in items])


def spaced(words):
    """The words with blanks between, or "none"."""
    return " ".join(words) or "none"
