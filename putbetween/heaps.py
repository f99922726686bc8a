"""Heaps: words without their plan, and the plans and the runs that they can come from."""

from putbetween.chains import makes_chain
from putbetween.errors import NoHeap, OtherSize
from putbetween.kinds import is_list_or_tuple
from putbetween.naming import run_with
from putbetween.plans import need_plan
from putbetween.words import LETTERS


def least_plan(heap):
    """The plan in which each item has seen just those of the other letters of its word."""
    need_heap(heap)
    rows = [()] * len(heap)
    for chain in chains_of(heap):
        rows[chain[-1]] = chain[:-1]
    return tuple(rows)


def heap_run(heap, plan):
    """The run of a plan whose plain names are the words, or None."""
    need_heap(heap)
    need_plan(plan)
    if len(plan) != len(heap):
        raise OtherSize()
    chains = chains_of(heap)
    if not all([makes_chain(plan, chain) for chain in chains]):
        return None
    return run_with(plan, chains)


def lacking(things):
    """The ascending list of the beginnings of some words that are not among these words."""
    if not are_words(things):
        raise NoHeap()
    there = {thing: True for thing in things}
    return sorted({part for thing in things for part in beginnings(thing) if part not in there})


def need_heap(heap):
    """Raise NoHeap for what is no heap."""
    if not is_heap(heap):
        raise NoHeap()


def is_heap(thing):
    """Whether a thing is a list or tuple of the words of some run."""
    if not are_words(thing):
        return False
    ending = {word[-1]: word for word in thing}
    if len(ending) != len(thing):
        return False
    # The word that lacks the last letter is the one that ends with the letter ahead of it.
    return all([len(word) == 1 or ending.get(word[-2]) == word[:-1] for word in thing])


def are_words(thing):
    """Whether a thing is a list or tuple of strings of falling letters."""
    return is_list_or_tuple(thing) and all([is_falling(word) for word in thing])


def is_falling(thing):
    """Whether a thing is a string of one or more letters, each less than the one ahead."""
    if not isinstance(thing, str) or thing == "":
        return False
    if not all([sign in LETTERS for sign in thing]):
        return False
    return all([left > right for left, right in zip(thing, thing[1:])])


def beginnings(word):
    """All beginnings of a word of one letter or more, but for the word itself."""
    return [word[:many] for many in range(1, len(word))]


def chains_of(heap):
    """The words of a heap as chains of its items, which are its letters from z down."""
    letters = sorted([word[-1] for word in heap], reverse=True)
    return [tuple([letters.index(letter) for letter in word]) for word in heap]
