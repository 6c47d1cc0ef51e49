"""The errors of the package, all directly below SplitError.

An error with an attribute is made of it, whatever value it is; so its message is a fixed one,
for the value may be one that cannot be shown. The other errors are made of a message.
"""


class SplitError(ValueError):
    """Any refusal of this package."""


class BadBasis(SplitError):
    """Rows that are no basis, or no inner list."""


class BadBook(SplitError):
    """Tables that are no splitbook, or (part None) a value that is no Splitbook."""

    def __init__(self, part):
        super().__init__("tables that are no splitbook, or (part None) a value that is no Splitbook")
        self.part = part


class BadBrackets(SplitError):
    """Brackets or powers of which no bracket book can be made."""

    def __init__(self, part):
        super().__init__("brackets or powers of which no bracket book can be made")
        self.part = part


class BadBraid(SplitError):
    """A value that is no braid of so many strands."""


class BadCrossed(SplitError):
    """Moves and turns that are no crossed pair."""

    def __init__(self, part):
        super().__init__("moves and turns that are no crossed pair")
        self.part = part


class BadCrossing(SplitError):
    """A value that is no crossing."""


class BadCut(SplitError):
    """A value that is no cut."""


class BadDeed(SplitError):
    """A value that is no deed."""


class BadDoing(SplitError):
    """A value that is no doing."""

    def __init__(self, part):
        super().__init__("a value that is no doing")
        self.part = part


class BadForm(SplitError):
    """A value that is no form."""


class BadGrades(SplitError):
    """A value that is no list of grades."""


class BadGroup(SplitError):
    """A value that is no table of a group."""


class BadInner(SplitError):
    """A span that is not inner, or no side span."""

    def __init__(self, part):
        super().__init__("a span that is not inner, or no side span")
        self.part = part


class BadLeads(SplitError):
    """Leads that are none of a pair room."""

    def __init__(self, part):
        super().__init__("leads that are none of a pair room")
        self.part = part


class BadLetters(SplitError):
    """A value that is no string of the letters s and t."""


class BadLive(SplitError):
    """A value that is no LiveBook."""


class BadMap(SplitError):
    """A value that is no map of the sizes wanted."""


class BadName(SplitError):
    """A value that is no name."""


class BadNumber(SplitError):
    """A parameter that is not one of the numbers wanted."""

    def __init__(self, part):
        super().__init__("a parameter that is not one of the numbers wanted")
        self.part = part


class BadOrders(SplitError):
    """A value that is no list of orders."""


class BadPair(SplitError):
    """A value that is no pair of things that go past one another."""


class BadPairRoom(SplitError):
    """A value that is no PairRoom."""


class BadPrime(SplitError):
    """A value that is no prime from 2 to 97."""


class BadRoom(SplitError):
    """Leads or falls that are no room, or (part None) a value that is none."""

    def __init__(self, part):
        super().__init__("leads or falls that are no room, or (part None) a value that is none")
        self.part = part


class BadRow(SplitError):
    """A value that is no row of the size wanted, or no list of such."""


class BadSelfsplit(SplitError):
    """A thing that is not selfsplit."""


class BadShape(SplitError):
    """A parameter of the wrong shape, or two primes or books that are not one."""

    def __init__(self, part):
        super().__init__("a parameter of the wrong shape, or two primes or books that are not one")
        self.part = part


class BadSquare(SplitError):
    """A value that is no square of the size wanted."""


class BadStart(SplitError):
    """A value that is no start."""


class BadStay(SplitError):
    """An inner span that does not stay."""


class BadStrands(SplitError):
    """A value that is no number of strands."""


class BadTable(SplitError):
    """Tables that are no product table, or (part None) a value that is none."""

    def __init__(self, part):
        super().__init__("tables that are no product table, or (part None) a value that is none")
        self.part = part


class BadText(SplitError):
    """A value that is no text of the kind wanted, and where it goes wrong."""

    def __init__(self, at):
        super().__init__("a value that is no text of the kind wanted, and where it goes wrong")
        self.at = at


class BadThing(SplitError):
    """A value that is no thing of the group."""


class BadTwist(SplitError):
    """A value that is no twist."""


class BadWay(SplitError):
    """A value that is no way."""


class BadWeigher(SplitError):
    """A value that is no weigher."""


class NoMark(SplitError):
    """A value that is no name of a mark."""

    def __init__(self, name):
        super().__init__("a value that is no name of a mark")
        self.name = name


class NoTwist(SplitError):
    """A room that no number twists."""


class NoWatch(SplitError):
    """A value that is no watched name."""

    def __init__(self, name):
        super().__init__("a value that is no watched name")
        self.name = name


class NotSimple(SplitError):
    """A splitbook that does not fall apart both ways."""


class NothingLeft(SplitError):
    """Nothing is left to take back, or to do again."""


class TooMany(SplitError):
    """More than the limit (most) came up."""

    def __init__(self, most):
        super().__init__("more than the limit (most) came up")
        self.most = most
