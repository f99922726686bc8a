"""Rooms [10]: documents in which each item opens rooms, and the names that tell how items stand there."""

import itertools
import random
import unittest

from putbetween.chains import weighed
from putbetween.plans import all_plans
from putbetween.rooms import document, many_room_runs, room_names, room_told
from tests import plainly

THREE = ((), (0,), (0, 1))
LINE = tuple(tuple(range(item)) for item in range(40))
APART = ((),) * 40

SMALL = [plan for many in range(4) for plan in all_plans(many)]
DRAWN = plainly.drawn_plans(161, 20, 12)
LARGE = plainly.drawn_plans(162, 20, 40) + [LINE, APART]


def marks(seen, rooms):
    """All marks of an item that has seen these."""
    return [None] + [(elder, number) for elder in seen for number in range(rooms + 1)]


def all_room_runs(plan, rooms):
    return list(itertools.product(*[marks(seen, rooms) for seen in plan]))


def drawn_run(draw, plan, rooms):
    return tuple(draw.choice(marks(seen, rooms)) for seen in plan)


def deep_run(draw, plan, rooms):
    """A run on which most items are put where the item just ahead of them was put, or into it."""
    run = []
    for seen in plan:
        run.append((seen[-1], draw.randrange(rooms + 1)) if seen and draw.randrange(8) else draw.choice(marks(seen, rooms)))
    return tuple(run)


class Node:
    """An item of a document, with its rooms as lists."""

    def __init__(self, item, rooms):
        self.item = item
        self.rooms = [[] for _ in range(rooms)]


def put(row, node, mark):
    """Put a node where its mark is, somewhere in this row or in the rooms there; whether it was there."""
    for at, other in enumerate(row):
        if other.item == mark[0]:
            if mark[1] == 0:
                row.insert(at + 1, node)
            else:
                other.rooms[mark[1] - 1].insert(0, node)
            return True
        if any(put(inner, node, mark) for inner in other.rooms):
            return True
    return False


def plain_document(plan, rooms, run):
    """The document, the items being put in one after another."""
    first = []
    for item, mark in enumerate(run):
        node = Node(item, rooms)
        if mark is None:
            first.insert(0, node)
        else:
            assert put(first, node, mark)
    return frozen(first)


def frozen(row):
    return tuple((node.item, tuple(frozen(inner) for inner in node.rooms)) for node in row)


def plain_names(run):
    names = {}
    for item, mark in enumerate(run):
        names[item] = ((0, item),) if mark is None else names[mark[0]] + ((mark[1], item),)
    return tuple(names.values())


def ways(row, way=()):
    """For each item of a document the rooms that it stands in, from the outermost one, as they are read."""
    found = []
    for item, inner in row:
        found.append((item, way))
        for number, room in enumerate(inner, 1):
            found.extend(ways(room, way + ((item, number),)))
    return found


def relations(row):
    """For each pair of items, both ways about, how the one stands to the other one."""
    read = ways(row)
    told = {}
    for (at, (one, one_way)), (other_at, (other, other_way)) in itertools.permutations(enumerate(read), 2):
        if other in dict(one_way):
            told[(one, other)] = ("in", dict(one_way)[other])
        elif one in dict(other_way):
            told[(one, other)] = ("holds", dict(other_way)[one])
        else:
            told[(one, other)] = "ahead" if at < other_at else "behind"
    return told


class Runs(unittest.TestCase):
    def test_many(self):
        self.assertEqual(many_room_runs((), 5), 1)
        self.assertEqual(many_room_runs(((),), 5), 1)
        self.assertEqual(many_room_runs(THREE, 0), 6)
        self.assertEqual(many_room_runs(THREE, 1), 15)
        self.assertEqual(many_room_runs(THREE, 5), 7 * 13)
        self.assertEqual(many_room_runs(APART, 5), 1)
        for plan in SMALL + plainly.drawn_plans(163, 15, 4):
            for rooms in range(6):
                self.assertEqual(many_room_runs(plan, rooms), len(all_room_runs(plan, rooms)))

    def test_many_of_40_items(self):
        wanted = 1
        for item in range(40):
            wanted *= 1 + 6 * item
        self.assertEqual(many_room_runs(LINE, 5), wanted)


class Documents(unittest.TestCase):
    def test_ordinary(self):
        self.assertEqual(document((), 3, ()), ())
        self.assertEqual(document(((),), 0, (None,)), ((0, ()),))
        self.assertEqual(document(((),), 2, (None,)), ((0, ((), ())),))
        self.assertEqual(document(THREE, 1, (None, (0, 1), (1, 0))), ((0, (((1, ((),)), (2, ((),))),)),))
        self.assertEqual(document(THREE, 0, (None, (0, 0), None)), ((2, ()), (0, ()), (1, ())))
        self.assertEqual(
            document(THREE, 2, (None, (0, 2), (0, 1))), ((0, (((2, ((), ())),), ((1, ((), ())),))),))

    def test_items_put_at_one_place_one_after_another(self):
        five = ((),) + ((0,),) * 4
        self.assertEqual([item for item, _ in document(((),) * 5, 0, (None,) * 5)], [4, 3, 2, 1, 0])
        behind = document(five, 3, (None,) + ((0, 0),) * 4)
        self.assertEqual([item for item, _ in behind], [0, 4, 3, 2, 1])
        for room in (1, 2, 3):
            ((item, rooms),) = document(five, 3, (None,) + ((0, room),) * 4)
            self.assertEqual(item, 0)
            self.assertEqual([[inner for inner, _ in row] for row in rooms],
                             [[4, 3, 2, 1] if number == room else [] for number in (1, 2, 3)])

    def test_put_in_one_by_one(self):
        draw = random.Random(164)
        pairs = [(plan, rooms, run) for plan in SMALL for rooms in (0, 1, 2, 5) for run in all_room_runs(plan, rooms)]
        for plan in DRAWN + LARGE:
            for rooms in range(6):
                pairs.append((plan, rooms, drawn_run(draw, plan, rooms)))
                pairs.append((plan, rooms, deep_run(draw, plan, rooms)))
        for plan, rooms, run in pairs:
            self.assertEqual(document(plan, rooms, run), plain_document(plan, rooms, run))

    def test_40_deep(self):
        for room in (1, 5):
            run = (None,) + tuple((item, room) for item in range(39))
            found = document(LINE, 5, run)
            self.assertEqual(repr(found), repr(plain_document(LINE, 5, run)))
            for item in range(40):
                self.assertEqual(len(found), 1)
                self.assertEqual(found[0][0], item)
                wanted = [int(number == room and item < 39) for number in range(1, 6)]
                self.assertEqual([len(row) for row in found[0][1]], wanted)
                found = found[0][1][room - 1]

    def test_a_long_row(self):
        run = (None,) + tuple((item, 0) for item in range(39))
        self.assertEqual([item for item, _ in document(LINE, 5, run)], list(range(40)))
        self.assertEqual([item for item, _ in document(APART, 0, (None,) * 40)], list(range(39, -1, -1)))


class Names(unittest.TestCase):
    def test_ordinary(self):
        self.assertEqual(room_names((), 5, ()), ())
        self.assertEqual(room_names(((),), 0, (None,)), (((0, 0),),))
        self.assertEqual(
            room_names(THREE, 1, (None, (0, 1), (1, 0))), (((0, 0),), ((0, 0), (1, 1)), ((0, 0), (1, 1), (0, 2))))
        self.assertEqual(room_names(THREE, 5, (None, None, (0, 5))), (((0, 0),), ((0, 1),), ((0, 0), (5, 2))))

    def test_made_one_by_one(self):
        draw = random.Random(165)
        for plan in SMALL + DRAWN + LARGE:
            for rooms in range(6):
                for run in (drawn_run(draw, plan, rooms), deep_run(draw, plan, rooms)):
                    self.assertEqual(room_names(plan, rooms, run), plain_names(run))

    def test_how_many_names_can_come(self):
        for plan in SMALL + [((), (0,), (0,), (0, 1)), ((), (), (0, 1), (0, 1))]:
            for rooms in (0, 1, 2):
                names = {name for run in all_room_runs(plan, rooms) for name in room_names(plan, rooms, run)}
                self.assertEqual(len(names), weighed(plan, rooms + 1))


class Told(unittest.TestCase):
    def assert_told(self, plan, rooms, run):
        """Hold the SEVENTH FACT for each pair of items, both ways about."""
        names = room_names(plan, rooms, run)
        wanted = relations(plain_document(plan, rooms, run))
        for one, other in itertools.permutations(range(len(plan)), 2):
            told = room_told(names[one], names[other])
            self.assertEqual(told, wanted[(one, other)], (plan, rooms, run, one, other))
            self.assertIs(type(told), type(wanted[(one, other)]))

    def test_ordinary(self):
        self.assertEqual(room_told(((0, 0), (1, 1)), ((0, 0),)), ("in", 1))
        self.assertEqual(room_told(((0, 0),), ((0, 0), (1, 1))), ("holds", 1))
        self.assertEqual(room_told(((0, 0), (0, 1)), ((0, 0),)), "behind")
        self.assertEqual(room_told(((0, 0),), ((0, 0), (0, 1))), "ahead")
        self.assertEqual(room_told(((0, 0),), ((0, 1),)), "behind")
        self.assertEqual(room_told(((0, 1),), ((0, 0),)), "ahead")
        self.assertEqual(room_told(((0, 0), (2, 3), (0, 4), (1, 5)), ((0, 0),)), ("in", 2))
        self.assertEqual(room_told(((0, 0), (0, 3), (2, 4)), ((0, 0),)), "behind")
        self.assertEqual(room_told(((0, 0), (1, 1)), ((0, 0), (2, 2))), "ahead")
        self.assertEqual(room_told(((0, 0), (0, 1)), ((0, 0), (5, 2))), "behind")
        self.assertEqual(room_told(((0, 0), (3, 1)), ((0, 0), (3, 2))), "behind")

    def test_seventh_fact_on_all_runs(self):
        for plan in SMALL:
            for rooms in (0, 1, 2, 3):
                for run in all_room_runs(plan, rooms):
                    self.assert_told(plan, rooms, run)

    def test_seventh_fact_on_drawn_runs(self):
        draw = random.Random(166)
        for plan in DRAWN + LARGE[::4] + [LINE]:
            for rooms in range(6):
                self.assert_told(plan, rooms, drawn_run(draw, plan, rooms))
                self.assert_told(plan, rooms, deep_run(draw, plan, rooms))

    def test_names_that_come_on_no_run_together(self):
        steps = [(number, item) for number in range(3) for item in range(1, 4)]
        names = [((0, item),) for item in range(4)]
        names += [((0, 0), step) for step in steps]
        names += [((0, 0), one, other) for one in steps for other in steps if one[1] < other[1]]
        opposite = {"ahead": "behind", "behind": "ahead"}
        for one, other in itertools.permutations(names, 2):
            told, turned = room_told(one, other), room_told(other, one)
            if type(told) is tuple:
                self.assertIn(told[0], ("in", "holds"))
                self.assertEqual(turned, ("holds" if told[0] == "in" else "in", told[1]))
                self.assertIn(told[1], range(1, 6))
            else:
                self.assertEqual(turned, opposite[told])

    def test_long_names(self):
        whole = ((0, 0),) + tuple((5, item) for item in range(1, 40))
        self.assertEqual(room_told(whole, whole[:39]), ("in", 5))
        self.assertEqual(room_told(whole[:1], whole), ("holds", 5))
        self.assertEqual(room_told(((0, 39),), whole), "ahead")
        self.assertEqual(room_told(whole[:39] + ((4, 39),), whole), "ahead")


if __name__ == "__main__":
    unittest.main()
