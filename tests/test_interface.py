"""The interface of DOC.md: each name, where it is defined, and how it is called."""

import importlib
import unittest

from putbetween import errors
from tests import wrong

FUNCTIONS = {
    "plans": {
        "is_plan": 1, "plan_of": 1, "behind": 2, "beside": 2, "repeated": 2, "turned": 1,
        "part": 2, "with_sight": 3, "all_plans": 1,
    },
    "likeness": {"sameness": 2, "is_sameness": 3},
    "chains": {
        "is_chain": 2, "chains": 1, "weighed": 2, "ending": 1, "beginning": 1, "by_length": 1,
        "through": 2, "between": 3,
    },
    "days": {"day_plan": 1, "rounds": 2, "day_hands": 1, "meet_costs": 1, "sight_costs": 1, "left_out": 2},
    "ranks": {"ahead": 3, "rank": 2, "chain_at": 2, "all_chains": 1, "longest": 1},
    "runs": {"many_runs": 1, "number_of": 2, "run_at": 2, "run_of": 2},
    "naming": {"names": 2, "standing": 2, "view": 3, "run_with": 2},
    "words": {"word": 2, "chain_of": 2, "words": 2},
    "heaps": {"least_plan": 1, "heap_run": 2, "lacking": 1},
    "playing": {
        "played": 4, "faulty": 3, "plain_namer": 4, "rank_namer": 4, "plain_table": 2, "rank_table": 2,
    },
    "foes": {"foe": 3, "is_foe": 4},
    "books": {"book_fault": 3, "is_right_book": 3, "plain_book": 1},
    "stocks": {"stocks": 2, "fewest_hands": 1, "is_fewest": 2},
    "rooms": {"many_room_runs": 2, "document": 3, "room_names": 3, "room_told": 2},
    "descents": {
        "many_descents": 1, "descent_names": 2, "descent_played": 4, "descent_foe": 3, "is_descent_foe": 4,
        "descent_faulty": 3,
    },
    "lots": {
        "many_lots": 1, "lots_needed": 1, "lot_names": 2, "lot_played": 4, "lot_foe": 3, "is_lot_foe": 4, "lot_faulty": 3,
    },
    "webs": {
        "webs_needed": 2, "many_webs": 2, "web_names": 3, "web_played": 5, "web_foe": 4, "is_web_foe": 5, "web_faulty": 4,
    },
    "growth": {"needed": 3, "gaps": 3, "speed": 2, "is_double": 3},
    "ties": {"tie_names": 2, "tie_standing": 2, "tie_played": 4, "many_tie_names": 1, "tie_told": 2},
    "texts": {"plan_text": 1, "day_text": 1, "read_plan": 1, "read_day": 1},
    "shapes": {"read_shape": 1, "plan_shape": 1, "bar": 1},
}

# For each class what its methods are given, the object aside.
CLASSES = {
    "papers": {
        "Paper": {
            "__init__": 1, "put": 2, "meet": 2, "back": 0, "changes": 0, "plan": 0, "run": 0, "hands": 0, "names": 0,
            "standing": 0, "view": 1, "copy": 0, "trying": 1,
        },
    },
    "desks": {"Desk": {"__init__": 0, "tell": 1, "undoable": 0}},
}

FIELDS = {
    "NoPlan": (), "NoSights": (), "NoNumber": (), "NoItems": (), "NoItem": (), "TooLarge": ("most",),
    "NoDay": ("index",), "NoChain": (), "TooMany": ("most",), "NoRun": (), "NoOrder": (), "NoWord": (),
    "NoHeap": (), "OtherSize": (), "NoBook": (), "NoRow": (), "NoHands": (), "NoRooms": (), "NoName": (),
    "NoKinds": (), "NoGrowth": (), "NoKind": (), "NoHand": (), "NothingDone": (), "BadText": ("line",),
    "BadShape": ("at",), "NoLine": (), "NotKept": ("name",),
}


class Functions(unittest.TestCase):
    def test_each_is_defined_where_it_is_listed(self):
        for module, names in FUNCTIONS.items():
            found = importlib.import_module("putbetween." + module)
            for name, arguments in names.items():
                function = getattr(found, name)
                self.assertEqual(function.__module__, "putbetween." + module, name)
                self.assertEqual(function.__code__.co_argcount, arguments, name)
                self.assertIsNone(function.__defaults__, name)


class Classes(unittest.TestCase):
    def test_each_is_defined_where_it_is_listed(self):
        for module, classes in CLASSES.items():
            for name, methods in classes.items():
                found = getattr(importlib.import_module("putbetween." + module), name)
                self.assertEqual(found.__module__, "putbetween." + module, name)
                for method, arguments in methods.items():
                    function = vars(found)[method]
                    self.assertEqual(function.__code__.co_argcount, arguments + 1, (name, method))
                    self.assertIsNone(function.__defaults__, (name, method))

    def test_all_modules_are_listed(self):
        listed = {*FUNCTIONS, *CLASSES, "errors"}
        self.assertEqual(len(listed), 24)


class Errors(unittest.TestCase):
    def test_base(self):
        self.assertEqual(errors.BetweenError.__bases__, (ValueError,))
        self.assertEqual(vars(errors.BetweenError()), {})

    def test_each_derives_directly_and_keeps_its_fields(self):
        for name, fields in FIELDS.items():
            error = getattr(errors, name)
            self.assertEqual(error.__module__, "putbetween.errors", name)
            self.assertEqual(error.__bases__, (errors.BetweenError,), name)
            values = list(range(5, 5 + len(fields)))
            self.assertEqual(vars(error(*values)), dict(zip(fields, values)), name)

    def test_no_others(self):
        classes = {name for name, thing in vars(errors).items() if isinstance(thing, type)}
        self.assertEqual(classes, set(FIELDS) | {"BetweenError"})

    def test_fields_keep_whatever_is_passed(self):
        for name, fields in FIELDS.items():
            for thing in wrong.things() if fields else []:
                error = getattr(errors, name)(thing)
                self.assertIs(getattr(error, fields[0]), thing, name)

    def test_made_with_just_the_fields(self):
        for name, fields in FIELDS.items():
            error = getattr(errors, name)
            self.assertRaises(TypeError, error, *[0] * (len(fields) + 1))
            if fields:
                self.assertRaises(TypeError, error)

    def test_each_can_be_raised_and_caught_as_the_base(self):
        for name, fields in FIELDS.items():
            with self.assertRaises(errors.BetweenError):
                raise getattr(errors, name)(*fields)


if __name__ == "__main__":
    unittest.main()
