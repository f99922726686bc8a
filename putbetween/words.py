"""Words: chains written as strings, which stand as strings are compared."""

from putbetween.chains import makes_chain, need_chain
from putbetween.errors import NoWord, TooLarge
from putbetween.naming import names
from putbetween.plans import need_plan

# The letter of an item stands at its number: a greater item is ahead, so it has a lesser letter.
LETTERS = "zyxwvutsrqponmlkjihgfedcba"


def word(plan, chain):
    """The word of a chain."""
    need_letters(plan)
    need_chain(plan, chain)
    return spelled(chain)


def chain_of(plan, text):
    """The chain whose word a text is."""
    need_letters(plan)
    chain = read_letters(text) if isinstance(text, str) else ()
    if not makes_chain(plan, chain):
        raise NoWord()
    return chain


def words(plan, run):
    """The words of the plain names of a run."""
    need_letters(plan)
    return tuple([spelled(chain) for chain in names(plan, run)])


def need_letters(plan):
    """Raise NoPlan for what is no plan, and TooLarge for one with more items than letters."""
    need_plan(plan)
    if len(plan) > len(LETTERS):
        raise TooLarge(len(LETTERS))


def spelled(chain):
    """The string of the letters of some items."""
    return "".join([LETTERS[item] for item in chain])


def read_letters(text):
    """The items whose letters a text has, -1 for each sign that is no letter."""
    return tuple([LETTERS.find(sign) for sign in text])
