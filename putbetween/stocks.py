"""Stocks: how many names each hand needs for its items, and how few hands are enough for a plan."""

from itertools import combinations

from putbetween.chains import ending
from putbetween.days import is_hand
from putbetween.errors import NoHands
from putbetween.kinds import is_integer
from putbetween.plans import is_part, need_plan


def stocks(plan, hands):
    """For each hand the least number of names that its items can have, all runs together."""
    need_plan(plan)
    if not are_integers(hands, len(plan)) or not all([is_hand(hand) for hand in hands]):
        raise NoHands()
    sums = [0] * (max(hands, default=-1) + 1)
    for hand, many in zip(hands, ending(plan)):
        sums[hand] += many
    return tuple(sums)


def are_integers(thing, many):
    """Whether a thing is a tuple of so many integers."""
    if not isinstance(thing, tuple) or len(thing) != many:
        return False
    return all([is_integer(part) for part in thing])


def fewest_hands(plan):
    """As few hands as can be, each of whose items has seen its earlier ones, and as many items that stand apart."""
    need_plan(plan)
    followers = [None] * len(plan)
    for item in range(len(plan)):
        follows(plan, item, followers, [])
    hands = []
    many = 0
    for item in range(len(plan)):
        if item in followers:
            hands.append(hands[followers.index(item)])
        else:
            hands.append(many)
            many += 1
    return tuple(hands), items_apart(plan, followers)


def follows(plan, item, followers, tried):
    """Whether the item can be made the follower of one that it has seen, others giving way to it."""
    for elder in plan[item]:
        if elder not in tried:
            tried.append(elder)
            if followers[elder] is None or follows(plan, followers[elder], followers, tried):
                followers[elder] = item
                return True
    return False


def items_apart(plan, followers):
    """As many items, none of which has seen another one, as there are items that follow none.

    From each of these, who would take an elder would take it from its follower, who would take another
    one, and so on. The items that are met so, and are not met as elders, have not seen one another.
    """
    met = [item for item in range(len(plan)) if item not in followers]
    waiting = list(met)
    elders = []
    while waiting:
        item = waiting.pop()
        for elder in plan[item]:
            if elder not in elders:
                elders.append(elder)
                waiting.append(followers[elder])
    met.extend([followers[elder] for elder in elders])
    return tuple([item for item in sorted(met) if item not in elders])


def is_fewest(plan, thing):
    """Whether a thing is a pair of hands and of as many items, which shows that there can be no fewer hands."""
    need_plan(plan)
    if not isinstance(thing, tuple) or len(thing) != 2:
        return False
    hands, apart = thing
    if not are_integers(hands, len(plan)) or not is_part(plan, apart):
        return False
    many = len(apart)
    if sorted(set(hands)) != list(range(many)):
        return False
    if any([seen in apart for item in apart for seen in plan[item]]):
        return False
    return all([hands[one] != hands[other] or one in plan[other] for one, other in combinations(range(len(plan)), 2)])
