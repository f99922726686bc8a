"""Things of every kind that callers may pass, and how the errors that they meet are held."""

from putbetween import errors
from putbetween.desks import Desk
from putbetween.papers import Paper


def nested(kind, depth):
    """A list or tuple in a list or tuple and so on, so many in all."""
    thing = kind()
    for _ in range(depth - 1):
        thing = kind([thing])
    return thing


def nested_dicts(depth):
    thing = {}
    for _ in range(depth - 1):
        thing = {0: thing}
    return thing


def paper():
    """A paper on which something stands."""
    found = Paper(3)
    found.put(0, 0)
    found.meet(0, 2)
    found.put(2, 1)
    return found


def desk():
    """A desk at which something is kept."""
    found = Desk()
    found.tell("plan a 0:/1: 0/")
    found.tell("drop a")
    found.tell("shape b .>.")
    return found


def insides(thing):
    """What is in the papers and the desks that are in a thing."""
    if type(thing) in (Paper, Desk):
        return [repr(vars(thing))]
    if type(thing) is dict:
        return insides(list(thing.values()))
    # The long ones of these things have none in them.
    if type(thing) in (list, tuple) and len(thing) < 100:
        return [told for part in thing if type(part) in (list, tuple, dict, Paper, Desk) for told in insides(part)]
    return []


def shown(thing):
    """All that can be seen of a thing, and of what is in it."""
    return repr(thing), insides(thing)


def things():
    """New things of every built-in kind but floats, complex numbers and sets, and of own classes."""
    return [
        None, True, False, Ellipsis, NotImplemented,
        -1, -2, -(10 ** 60 - 1), 41, 40, 10 ** 60 - 1,
        0, 1, 2, 3,
        "", "0", "a", "z", "()", "((), (0,))", "\n\t ~",
        b"", b"0", b"\x00\x01", bytearray(b"\x00"), memoryview(b"\x00\x01"),
        [], [0], [0, 1], [[]], [[], [0]], [None], [True],
        {}, {0: ()}, {0: 1, 1: 2}, {"a": ("a", "a")},
        (), (0,), (1,), (0, 1), (1, 0), (0, 0), (-1,), (0, -1), (True,), (False,), (0, True), (None,),
        ("0",), (b"",), ([],), ({},), ((),), ((), ()), ((), (0,)), ((), [0]), [(), (0,)],
        ((), (False,)), ((), (1,)), ((), (-1,)), ((), (0, 0)), ((), (0,), (1,)), ((), (0,), (1, 0)),
        (10 ** 60 - 1,), ((), (-(10 ** 60 - 1),)),
        nested(tuple, 40), nested(list, 40), nested_dicts(40),
        ((),) * 40, ((),) * 41, (0,) * 9999, [0] * 9999, ((),) * 9999, tuple(range(9999)),
        range(0), range(3), slice(0, 1), iter([0]), iter((0,)), reversed([0]), enumerate([]), {}.keys(),
        {0: 0}.items(), int, tuple, object(), len, [].append, things, lambda: 0, ValueError("a"),
        errors.NoPlan(), errors.TooLarge(40), errors.NotKept("a"), errors.NoPlan, errors.BetweenError(),
        Paper(1), paper(), Desk(), desk(), Paper, Desk, paper().put, [paper()], (desk(),), ((), paper()), {0: Desk()},
    ]


def with_things(good):
    """All that a good thing becomes with another thing in the place of it and of each part of it."""
    changed = things()
    if type(good) in (list, tuple):
        for at in range(len(good)):
            for inner in with_things(good[at]):
                changed.append(good[:at] + type(good)([inner]) + good[at + 1:])
    return changed


def assert_error(case, error, function, *arguments):
    """Hold that the call raises just this error, and that what is passed stays what it is."""
    before = shown(arguments)
    told = f"{function.__name__}{repr(arguments):.200}"
    with case.assertRaises(errors.BetweenError, msg=told) as caught:
        function(*arguments)
    raised = caught.exception
    case.assertIs(type(raised), type(error), told)
    case.assertEqual(vars(raised), vars(error), told)
    for name, value in vars(raised).items():
        case.assertIs(type(value), type(getattr(error, name)), told)
    case.assertEqual(type(raised).__bases__, (errors.BetweenError,), told)
    case.assertEqual(errors.BetweenError.__bases__, (ValueError,), told)
    case.assertEqual(shown(arguments), before, told)
