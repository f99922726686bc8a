"""Texts: plans and days written line by line, and read again."""

from putbetween.days import MOST_HANDS, is_meet, is_put, need_day
from putbetween.errors import BadText
from putbetween.plans import is_plan, need_plan


def plan_text(plan):
    """A line for each item of a plan: the item, and those that it has seen."""
    need_plan(plan)
    return "".join([f"{due_start(item)}{numbers_text(row)}\n" for item, row in enumerate(plan)])


def due_start(item):
    """With what the line of an item begins."""
    return f"{item}:"


def numbers_text(numbers):
    """The numbers, each with a blank ahead."""
    return "".join([f" {number}" for number in numbers])


def read_plan(text):
    """The plan of a text."""
    lines, rest = lines_of(text)
    plan = ()
    for item, line in enumerate(lines):
        plan += (read_row(item, line),)
        # What is bad in a line makes no plan, and neither does one line too many.
        if not is_plan(plan):
            raise BadText(item + 1)
    need_nothing(lines, rest)
    return plan


def read_row(item, line):
    """The tuple of what an item has seen by its line, or None for a line of another form."""
    start = due_start(item)
    words = line[len(start):].split(" ")
    if not line.startswith(start) or words[0] != "":
        return None
    return read_numbers(item, words[1:])


def read_numbers(many, words):
    """The numbers below so many that are written so; None in the place of each word that is none of them."""
    # Looked up, as a word may have needless zeros, or be too long to be made a number.
    known = {str(number): number for number in range(many)}
    return tuple([known.get(word) for word in words])


def day_text(day):
    """A line for each event of a day."""
    need_day(day)
    return "".join([f"{event[0]}{numbers_text(event[1:])}\n" for event in day])


def read_day(text):
    """The day of a text, a list."""
    lines, rest = lines_of(text)
    day = []
    for at, line in enumerate(lines):
        event = read_event(line)
        if not is_put(event) and not is_meet(event):
            raise BadText(at + 1)
        day.append(event)
    need_nothing(lines, rest)
    # All are events, but there may be too many of them, or of puts.
    need_day(day)
    return day


def read_event(line):
    """The tuple of the word of a line and its hands, None in the place of what is no hand."""
    words = line.split(" ")
    return (words[0],) + read_numbers(MOST_HANDS, words[1:])


def lines_of(text):
    """The lines of a text that are closed by a line feed, and what stands behind them."""
    if not isinstance(text, str):
        raise BadText(0)
    parts = text.split("\n")
    return parts[:-1], parts[-1]


def need_nothing(lines, rest):
    """Raise BadText if something stands behind the last line feed."""
    if rest != "":
        raise BadText(len(lines) + 1)
