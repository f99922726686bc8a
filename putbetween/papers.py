"""Papers: documents that grow, into which hands put items, and whose hands meet."""

from putbetween.errors import NoHand, NoNumber, NothingDone, TooMany
from putbetween.kinds import is_number
from putbetween.naming import chains_at, order_at
from putbetween.plans import MOST_ITEMS

MOST_HANDS = 8


class Paper:
    """A document of some hands, with all that has been done to it."""

    def __init__(self, hands):
        if not is_number(1, MOST_HANDS, hands):
            raise NoNumber()
        # What there is at first and behind each change that can be taken back: the plan, its run, the hands of
        # the items, and what each hand has seen. What stands in the list is never changed.
        self._states = [((), (), (), ((),) * hands)]

    def put(self, hand, gap):
        """Put in an item by a hand, into this gap of its view; its plain name."""
        seen = self._seen(hand)
        plan, run, hands, sights = self._states[-1]
        if not is_number(0, len(seen), gap):
            raise NoNumber()
        item = len(plan)
        if item == MOST_ITEMS:
            raise TooMany(MOST_ITEMS)
        sights = replaced(sights, [hand], seen + (item,))
        self._states.append((plan + (seen,), run + (gap,), hands + (hand,), sights))
        return self.names()[item]

    def meet(self, one, other):
        """Let two hands meet: both have then seen all that one of them had."""
        both = sorted(set(self._seen(one) + self._seen(other)))
        if one == other:
            raise NoHand()
        plan, run, hands, sights = self._states[-1]
        self._states.append((plan, run, hands, replaced(sights, [one, other], tuple(both))))

    def back(self):
        """Take back the last put or meet that is not taken back."""
        if self.changes() == 0:
            raise NothingDone()
        self._states.pop()

    def changes(self):
        """How many puts and meets can be taken back."""
        return len(self._states) - 1

    def plan(self):
        """The plan so far."""
        return self._states[-1][0]

    def run(self):
        """The run of the plan."""
        return self._states[-1][1]

    def hands(self):
        """The hands of the items."""
        return self._states[-1][2]

    def names(self):
        """The plain names of the items."""
        return chains_at(self.plan(), self.run())

    def standing(self):
        """The items as they stand."""
        return order_at(self.plan(), self.run())

    def view(self, hand):
        """The items that a hand has seen, as they stand."""
        seen = self._seen(hand)
        return tuple([item for item in self.standing() if item in seen])

    def copy(self):
        """Another paper like this one, which goes on apart."""
        other = Paper(len(self._states[-1][3]))
        other._states = list(self._states)
        return other

    def trying(self, action):
        """What the action returns for the paper, on which all is put back to what it was."""
        before = self._states
        self._states = list(before)
        try:
            return action(self)
        finally:
            self._states = before

    def _seen(self, hand):
        """The items that a hand has seen; NoHand is raised for what is no hand of the paper."""
        sights = self._states[-1][3]
        if not is_number(0, len(sights) - 1, hand):
            raise NoHand()
        return sights[hand]


def replaced(sights, hands, seen):
    """What all hands have seen, these ones having seen what is told."""
    return tuple([seen if hand in hands else row for hand, row in enumerate(sights)])
