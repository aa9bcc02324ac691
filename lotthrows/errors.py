"""The errors of the package, each a direct subclass of ThrowError."""


class ThrowError(Exception):
    """The base class of all errors of the package."""


class BadSize(ThrowError):
    """A value that is no size."""

    def __init__(self, thing):
        self.thing = thing


class BadKind(ThrowError):
    """A value that is no kind of the size that is asked for."""

    def __init__(self, thing):
        self.thing = thing


class BadDeck(ThrowError):
    """A value that is no deck of the size that is asked for."""

    def __init__(self, thing):
        self.thing = thing


class BadOrder(ThrowError):
    """A value that is no order of the cards, or of the kinds, that are asked for."""

    def __init__(self, thing):
        self.thing = thing


class BadThrow(ThrowError):
    """A value that is no throw."""

    def __init__(self, thing):
        self.thing = thing


class BadThrows(ThrowError):
    """A value that is no row of throws of one size."""

    def __init__(self, thing):
        self.thing = thing


class OtherSize(ThrowError):
    """A value of the right form, but of another size than what stands beside it."""

    def __init__(self, thing):
        self.thing = thing


class BadDesk(ThrowError):
    """A value that is no desk."""

    def __init__(self, thing):
        self.thing = thing


class BadDesks(ThrowError):
    """A value that is no row of desks."""

    def __init__(self, thing):
        self.thing = thing


class BadSheet(ThrowError):
    """A value that is no sheet for the desk."""

    def __init__(self, thing):
        self.thing = thing


class BadTable(ThrowError):
    """A value that is no table of ways."""

    def __init__(self, thing):
        self.thing = thing


class BadWord(ThrowError):
    """A value that is no word of unknown throws."""

    def __init__(self, thing):
        self.thing = thing


class BadChoice(ThrowError):
    """A value that is no choice of throws for the letters."""

    def __init__(self, thing):
        self.thing = thing


class BadCode(ThrowError):
    """A value that is no code for the row of desks."""

    def __init__(self, thing):
        self.thing = thing


class BadPlan(ThrowError):
    """A value that is no plan for the row of desks."""

    def __init__(self, thing):
        self.thing = thing


class BadNumber(ThrowError):
    """A value that is no number of those that are asked for."""

    def __init__(self, thing):
        self.thing = thing


class BadTree(ThrowError):
    """A value that is no tree for the desk and the throw."""

    def __init__(self, thing):
        self.thing = thing


class BadCounts(ThrowError):
    """A value that is no counts of those that are asked for."""

    def __init__(self, thing):
        self.thing = thing


class BadFacts(ThrowError):
    """A value that is no facts of the size."""

    def __init__(self, thing):
        self.thing = thing


class BadWay(ThrowError):
    """A value that is no way of the two kinds."""

    def __init__(self, thing):
        self.thing = thing


class Unfit(ThrowError):
    """Facts that no throw fits, as the certificate shows."""

    def __init__(self, certificate):
        self.certificate = certificate


class BadBook(ThrowError):
    """A value that is no book of throws."""

    def __init__(self, thing):
        self.thing = thing


class BadProgram(ThrowError):
    """A value that is no program of the size."""

    def __init__(self, thing):
        self.thing = thing


class BadRun(ThrowError):
    """A value that is no run of the program on the deck."""

    def __init__(self, thing):
        self.thing = thing


class BadEnd(ThrowError):
    """A value that is no end of two cards."""

    def __init__(self, thing):
        self.thing = thing


class TooMany(ThrowError):
    """More results than the most that were asked for."""

    def __init__(self, most):
        self.most = most


class BadClaim(ThrowError):
    """A value that is no claim, or that the bench has already."""

    def __init__(self, thing):
        self.thing = thing


class Unkept(ThrowError):
    """A claim that does not hold, or would hold no more."""

    def __init__(self, claim):
        self.claim = claim


class NoClaim(ThrowError):
    """A value that is no claim of the bench."""

    def __init__(self, thing):
        self.thing = thing


class NothingToUndo(ThrowError):
    """No deed is left to undo."""


class NothingToRedo(ThrowError):
    """No deed is left to do again."""


class BadText(ThrowError):
    """A value that is no text of what is read: 0 for no string, otherwise the line that is wrong."""

    def __init__(self, at):
        self.at = at
