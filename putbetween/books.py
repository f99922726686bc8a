"""Books: ways of naming that are looked up, the names in a book and their order in a row."""

from putbetween.chains import chains
from putbetween.errors import NoBook, NoRow
from putbetween.kinds import is_list_or_tuple, is_name
from putbetween.plans import need_plan
from putbetween.playing import faulty, rank_namer, rank_table
from putbetween.runs import many_runs
from putbetween.strangers import need_few_runs

MOST_IN_ROW = 5000


def book_fault(plan, book, row):
    """The first run on which a book and a row have a fault, and this fault; or None."""
    need_plan(plan)
    need_book(book)
    if not is_row(row):
        raise NoRow()
    return faulty(plan, book_namer(book), row_table(row))


def is_right_book(plan, book, row):
    """Whether a book and a row have no fault on any run."""
    need_plan(plan)
    need_book(book)
    need_few_runs(many_runs(plan))
    return is_row(row) and faulty(plan, book_namer(book), row_table(row)) is None


def plain_book(plan):
    """The book with the ranks of the plain names, and the row of these ranks."""
    book = {}

    def entered(_, item, view, gap):
        key = key_of(item, view, gap)
        if key not in book:
            book[key] = rank_namer(plan, item, view, gap)
        return book[key]

    # There is no fault, so all runs are gone through.
    faulty(plan, entered, rank_table)
    return book, tuple(range(chains(plan)))


def need_book(book):
    """Raise NoBook for what is no dict."""
    if not isinstance(book, dict):
        raise NoBook()


def is_row(thing):
    """Whether a thing is a list or tuple of unlike names, not too many."""
    if not is_list_or_tuple(thing) or len(thing) > MOST_IN_ROW:
        return False
    return all([is_name(name) for name in thing]) and len(set(thing)) == len(thing)


def key_of(item, view, gap):
    """The key of a book under which the name of an item stands."""
    return item, tuple([other for other, _ in view]), gap


def book_namer(book):
    """The namer that looks up a book; what has no entry has no name."""
    def looked_up(_, item, view, gap):
        return book.get(key_of(item, view, gap))

    return looked_up


def row_table(row):
    """The table that looks up a row; it is silent about what is not there."""
    places = {name: place for place, name in enumerate(row)}

    def looked_up(one, other):
        if one not in places or other not in places:
            return None
        return places[one] < places[other]

    return looked_up
