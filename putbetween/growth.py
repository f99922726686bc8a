"""Growth: documents whose gaps are of kinds, and how fast the names that they need become more."""

from putbetween.errors import NoGrowth, NoKind, NoNumber
from putbetween.kinds import is_integer, is_number, is_word

MOST_KINDS = 12
MOST_LEFT = 4
MOST_ROUNDS = 200


def needed(growth, kind, many):
    """The least number of names for so many items that are put in behind one another, into a gap of a kind."""
    need_rounds(growth, kind, many)
    needs = {one: 0 for one in growth}
    for _ in range(many):
        needs = {one: 1 + sum([needs[left] for left in growth[one]]) for one in growth}
    return needs[kind]


def gaps(growth, kind, many):
    """The numbers of the gaps of all kinds behind so many rounds, in which items are put into all gaps."""
    need_rounds(growth, kind, many)
    numbers = {one: 0 for one in growth}
    numbers[kind] = 1
    for _ in range(many):
        longer = {one: 0 for one in growth}
        for one in growth:
            for left in growth[one]:
                longer[left] += numbers[one]
        numbers = longer
    return numbers


def need_rounds(growth, kind, many):
    """Raise NoGrowth, NoKind or NoNumber for what is no growth, no kind of it, or no number of rounds."""
    need_kind(growth, kind)
    if not is_number(0, MOST_ROUNDS, many):
        raise NoNumber()


def need_kind(growth, kind):
    """Raise NoGrowth or NoKind for what is no growth or no kind of it."""
    if not is_growth(growth):
        raise NoGrowth()
    if not is_kind(growth, kind):
        raise NoKind()


def is_growth(thing):
    """Whether a thing is a dict from kinds to the kinds of the gaps that they leave."""
    if not isinstance(thing, dict) or not 1 <= len(thing) <= MOST_KINDS:
        return False
    if not all([is_word(kind) for kind in thing]):
        return False
    return all([are_left(thing, row) for row in thing.values()])


def are_left(growth, thing):
    """Whether a thing is a tuple of kinds that a kind can leave."""
    if not isinstance(thing, tuple) or len(thing) > MOST_LEFT:
        return False
    return all([is_kind(growth, left) for left in thing])


def is_kind(growth, thing):
    """Whether a thing is a kind of a dict of kinds."""
    return isinstance(thing, str) and thing in growth


def speed(growth, kind):
    """The degree to which the needed names grow, or two routes back to one kind by which they double."""
    need_kind(growth, kind)
    for turn, there in routes_from(growth, kind).items():
        circles = circles_at(growth, turn)
        if len(circles) > 1:
            return ("double", there, circles[0], circles[1])
    return ("power", most_circles(growth, kind))


def routes_from(growth, start):
    """To each kind to which a route leads from the start a shortest one; the nearest kinds first."""
    routes = {start: ()}
    waiting = [start]
    # The list grows at its end while it is gone through.
    at = 0
    while at < len(waiting):
        kind = waiting[at]
        for index, left in enumerate(growth[kind]):
            if left not in routes:
                routes[left] = routes[kind] + ((kind, index),)
                waiting.append(left)
        at += 1
    return routes


def circles_at(growth, kind):
    """For each step from a kind behind which a route leads back to it the step and such a route."""
    circles = []
    for index, left in enumerate(growth[kind]):
        back = routes_from(growth, left).get(kind)
        if back is not None:
            circles.append(((kind, index),) + back)
    return circles


def most_circles(growth, kind):
    """The most circles that lie one behind another on a route from a kind, where no kind is on two of them."""
    circles = circles_at(growth, kind)
    around = [one for one, _ in circles[0]] if circles else [kind]
    behind = sorted({left for one in around for left in growth[one] if left not in around})
    return len(circles) + max([most_circles(growth, left) for left in behind], default=0)


def is_double(growth, kind, thing):
    """Whether a thing shows, by two routes back to one kind, that the needed names double."""
    need_kind(growth, kind)
    if not isinstance(thing, tuple) or len(thing) != 4 or thing[0] != "double":
        return False
    there, one, other = thing[1:]
    turn = end_of(growth, kind, there)
    if turn is None or end_of(growth, turn, one) != turn or end_of(growth, turn, other) != turn:
        return False
    # A route () is a beginning of each other one.
    shorter = min(len(one), len(other))
    return one[:shorter] != other[:shorter]


def end_of(growth, start, thing):
    """The kind to which a thing leads from the start if it is a route; otherwise None."""
    if not isinstance(thing, tuple):
        return None
    kind = start
    for step in thing:
        if not isinstance(step, tuple) or len(step) != 2 or step[0] != kind:
            return None
        index = step[1]
        if not is_integer(index) or not 0 <= index < len(growth[kind]):
            return None
        kind = growth[kind][index]
    return kind
