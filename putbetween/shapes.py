"""Shapes: plans written as strings of items behind and beside one another."""

from putbetween.errors import BadShape
from putbetween.plans import beside, behind, need_plan, repeated

MOST_TIMES = 40


def read_shape(text):
    """The plan of a shape."""
    need_shape(text)
    # The plans of what stands ahead of the last `|` and behind it, and the number ahead of the next part;
    # `outer` has what these were at each open bracket.
    whole, row, times = (), (), ""
    outer = []
    for sign in text:
        if sign == "(":
            outer.append((whole, row, times))
            whole, row, times = (), (), ""
        elif sign == "|":
            whole, row = beside(whole, row), ()
        elif sign in ".)":
            part = ((),)
            if sign == ")":
                part = beside(whole, row)
                whole, row, times = outer.pop()
            row = behind(row, repeated(part, int(times or "1")))
            times = ""
        elif sign != ">":
            times += sign
    return beside(whole, row)


def need_shape(text):
    """Raise BadShape for what is no shape, with the first sign with which none goes on."""
    if not isinstance(text, str):
        raise BadShape(-1)
    depth = 0
    # Whether an item or a closing bracket stands just ahead, and otherwise what stands of a number there.
    closed = False
    times = ""
    for at, sign in enumerate(text):
        if closed:
            fits = sign in ">|" or sign == ")" and depth > 0
        else:
            fits = sign in ".(" or is_times(times + sign)
        if not fits:
            raise BadShape(at)
        times = "" if closed or sign in ".(" else times + sign
        closed = sign in ".)"
        if sign == "(":
            depth += 1
        if sign == ")":
            depth -= 1
    if not closed or depth > 0:
        raise BadShape(len(text))


def is_times(text):
    """Whether a text of few signs is a number of times, without needless zeros."""
    return text in [str(times) for times in range(1, MOST_TIMES + 1)]


def plan_shape(plan):
    """A shape of a plan that is the same but for the numbers of its items, or None."""
    need_plan(plan)
    return None if plan == () else shape_of(plan, list(range(len(plan))))


def shape_of(plan, items):
    """A shape of these items of a plan, one or more, or None."""
    if len(items) == 1:
        return "."
    parts = pieces(plan, items, True)
    if len(parts) > 1:
        return joined("|", [shape_of(plan, part) for part in parts])
    # Where all of two pieces are seen by, or have seen, one another, the one stands behind the other one.
    parts = pieces(plan, items, False)
    if len(parts) == 1:
        return None
    shapes = [shape_of(plan, part) for part in parts]
    return joined(">", [shape if shape in (None, ".") else f"({shape})" for shape in shapes])


def joined(sign, shapes):
    """The shapes with a sign between, or None if one of them is None."""
    return None if None in shapes else sign.join(shapes)


def pieces(plan, items, seen):
    """The items in as many lists as can be, ascending, such that no two of unlike lists are joined.

    Two items are joined if the one has seen the other one, or, if `seen` is False, if none has.
    """
    found = []
    for item in items:
        near = [piece for piece in found if any([(other in plan[item]) == seen for other in piece])]
        found = [piece for piece in found if piece not in near]
        found.append([other for piece in near for other in piece] + [item])
    return sorted([sorted(piece) for piece in found])


def bar(plan):
    """The least four items that no shape has: b and d have seen c, b also a, and there are no other sights."""
    need_plan(plan)
    items = range(len(plan))
    # All four are unlike, as none of them has the sights of another one.
    for a in items:
        for b in [item for item in items if a in plan[item]]:
            for c in [item for item in plan[b] if are_apart(plan, a, item)]:
                for d in [item for item in items if c in plan[item]]:
                    if are_apart(plan, a, d) and are_apart(plan, b, d):
                        return (a, b, c, d)
    return None


def are_apart(plan, one, other):
    """Whether none of two items has seen the other one."""
    return one not in plan[other] and other not in plan[one]
