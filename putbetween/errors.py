"""All errors of the package; what stands in their attributes is told by DOC.md."""


class BetweenError(ValueError):
    """The base of all errors of this package."""

    def __init__(self):
        # An error without fields inherits this, and so is made with nothing.
        pass


class NoPlan(BetweenError):
    """A thing is no plan."""


class NoSights(BetweenError):
    """A thing is no list of what each item has seen at least."""


class NoNumber(BetweenError):
    """A thing is no integer within its bounds."""


class NoItems(BetweenError):
    """A thing is no ascending tuple of unlike items of the plan."""


class NoItem(BetweenError):
    """A thing is no item of the plan that may stand there."""


class TooLarge(BetweenError):
    """There are more than so many items, or there would be."""

    def __init__(self, most):
        self.most = most


class NoDay(BetweenError):
    """The thing with this index is no event; -1 where the whole is no day."""

    def __init__(self, index):
        self.index = index


class NoChain(BetweenError):
    """A thing is no chain of the plan."""


class TooMany(BetweenError):
    """There are more than so many things to go through."""

    def __init__(self, most):
        self.most = most


class NoRun(BetweenError):
    """A thing is no run of the plan."""


class NoOrder(BetweenError):
    """A thing is no tuple of all items, each once."""


class NoWord(BetweenError):
    """A thing is no word of a chain of the plan."""


class NoHeap(BetweenError):
    """A thing is no heap of words."""


class OtherSize(BetweenError):
    """The plan has another number of items than the heap."""


class NoBook(BetweenError):
    """A thing is no book."""


class NoRow(BetweenError):
    """A thing is no row of names."""


class NoHands(BetweenError):
    """A thing is no tuple of the hands of the items."""


class NoRooms(BetweenError):
    """A thing is no number of rooms that an item can open."""


class NoName(BetweenError):
    """A thing is no plain name of any plan."""


class NoKinds(BetweenError):
    """A thing is no number of kinds of ties."""


class NoGrowth(BetweenError):
    """A thing is no growth."""


class NoKind(BetweenError):
    """A thing is no kind of the growth."""


class NoHand(BetweenError):
    """A thing is no hand of the paper that may stand there."""


class NothingDone(BetweenError):
    """There is nothing that can be taken back."""


class BadText(BetweenError):
    """The line with this number is the first bad one of a text."""

    def __init__(self, line):
        self.line = line


class BadShape(BetweenError):
    """At this sign a text can no longer become a shape; -1 for no text."""

    def __init__(self, at):
        self.at = at


class NoLine(BetweenError):
    """A thing is no line that the desk knows."""


class NotKept(BetweenError):
    """No plan is kept under this name."""

    def __init__(self, name):
        self.name = name
