"""The foe: against who uses fewer names than a plan has chains it finds a run with a fault."""

from putbetween.chains import chains
from putbetween.playing import play, put_in
from putbetween.runs import is_run
from putbetween.strangers import is_answer, need_few_names, remembering


def foe(plan, namer, table):
    """A run with its fault, or as many runs and items, with names all unlike, as there are chains."""
    need_few_names(chains(plan))
    asked = remembering(namer)
    row = []
    for item in range(len(plan)):
        found, row = with_item(plan, row, item, asked, table)
        if found is not None:
            return found
    # Two like names would have met on one of the runs, or the table would have been wrong on one of them.
    return ("names", runs_of(plan, row))


def is_foe(plan, namer, table, thing):
    """Whether a thing is what the foe may tell."""
    return is_answer(plan, namer, table, thing, chains(plan), is_run, play)


# The row has the pairs (item, name) of all names that can come, as DOC.md tells in 7.2. A cut of it
# leads to a run: each item is put in where the cut is among the names of the items that it has seen,
# and so has the one name that was made for this gap. On each such run the items stand as in the row.


def with_item(plan, row, item, namer, table):
    """A run with a fault behind the next item, as the foe tells it, or None; and the row with the item's names."""
    places = places_in(row, item)
    longer = []
    due = True
    for cut in range(len(row) + 1):
        stands = stands_at(plan, places, cut)
        run = gaps_at(plan, item + 1, stands, cut)
        state = tuple([row[place][1] for place in stands]), tuple([row[place][0] for place in sorted(stands)])
        fault, (names, order) = put_in(plan, run[item], state, namer, table)
        if fault is not None:
            return ("fault", run + (0,) * (len(plan) - len(run)), fault), row
        # One name is due for each gap between names of seen items; the others there are told ahead of it or behind.
        if due and (cut == len(row) or order.index(item) < order.index(row[cut][0])):
            longer.append((item, names[item]))
            due = False
        if cut < len(row):
            longer.append(row[cut])
            due = due or row[cut][0] in plan[item]
    return None, longer


def places_in(row, many):
    """For each of so many items the ascending list of the places of its names in the row."""
    places = [[] for _ in range(many)]
    for place, (item, _) in enumerate(row):
        places[item].append(place)
    return places


def stands_at(plan, places, cut):
    """For each item the place of its name on the run that leads to a cut."""
    passed = [len([place for place in own if place < cut]) for own in places]
    return [own[sum([passed[other] for other in seen])] for own, seen in zip(places, plan)]


def gaps_at(plan, many, stands, cut):
    """The gaps of the first so many items on the run that leads to a cut."""
    return tuple([len([other for other in seen if stands[other] < cut]) for seen in plan[:many]])


def runs_of(plan, row):
    """For each name of the row a run on which its item has it, and the item."""
    places = places_in(row, len(plan))
    rows = []
    for cut, (item, _) in enumerate(row):
        # An item has its name on the runs on both sides of it.
        rows.append((gaps_at(plan, len(plan), stands_at(plan, places, cut), cut), item))
    return rows
