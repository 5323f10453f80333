"""The errors of the program, each under one of three bases."""


class BadValue(ValueError):
    """What was given is not of the required kind or form."""


class InvalidText(BadValue):
    """No text of a shape."""

    def __init__(self, given):
        BadValue.__init__(self, "this is no text of a shape")
        self.given = given


class InvalidFraction(BadValue):
    """No fraction, or not one that is allowed here."""

    def __init__(self, given):
        BadValue.__init__(self, "this is no fraction that is allowed here")
        self.given = given


class InvalidNumber(BadValue):
    """No number of the shape, or not one that is allowed here."""

    def __init__(self, given):
        BadValue.__init__(self, "this is no number that is allowed here")
        self.given = given


class InvalidScale(BadValue):
    """No scale that is allowed."""

    def __init__(self, given):
        BadValue.__init__(self, "this is no scale that is allowed")
        self.given = given


class InvalidTree(BadValue):
    """No tree."""

    def __init__(self, given):
        BadValue.__init__(self, "this is no tree")
        self.given = given


class InvalidCount(BadValue):
    """No number of panes that is allowed."""

    def __init__(self, given):
        BadValue.__init__(self, "this is no number of panes that is allowed")
        self.given = given


class InvalidWay(BadValue):
    """Neither lying nor standing."""

    def __init__(self, given):
        BadValue.__init__(self, "a pane is lying or standing")
        self.given = given


class InvalidName(BadValue):
    """No name for a shape."""

    def __init__(self, given):
        BadValue.__init__(self, "this is no name for a shape")
        self.given = given


class InvalidIndex(BadValue):
    """No index of a pane or a claim."""

    def __init__(self, given):
        BadValue.__init__(self, "there is nothing at this index")
        self.given = given


class InvalidClaim(BadValue):
    """No claim of a desk."""

    def __init__(self, given):
        BadValue.__init__(self, "this is no claim of a desk")
        self.given = given


class NotAShape(BadValue):
    """No shape."""

    def __init__(self, given):
        BadValue.__init__(self, "this is no shape")
        self.given = given


class InvalidEquation(BadValue):
    """No equation: the first term that is not right, None if there is none to name."""

    def __init__(self, index):
        BadValue.__init__(self, "this is no equation")
        self.index = index


class InvalidCutting(BadValue):
    """No cutting: the first pane that is not right, None if there is none to name."""

    def __init__(self, index):
        BadValue.__init__(self, "this is no cutting")
        self.index = index


class BadName(LookupError):
    """A name that is not there, or that cannot be taken away."""


class UnknownName(BadName):
    """A name that the desk does not have."""

    def __init__(self, given):
        BadName.__init__(self, "the desk has no such name")
        self.given = given


class InUse(BadName):
    """A name that a claim is about: the index of the first such claim."""

    def __init__(self, index):
        BadName.__init__(self, "a claim is about this name")
        self.index = index


class NoAnswer(ArithmeticError):
    """All that was given is right by itself, but there is no answer."""


class NoRoot(NoAnswer):
    """Not just one root above 0 in the stretch."""

    def __init__(self):
        NoAnswer.__init__(self, "not just one root above 0 lies there")


class NoQuotient(NoAnswer):
    """A division by 0."""

    def __init__(self):
        NoAnswer.__init__(self, "nothing can be divided by 0")


class NotPositive(NoAnswer):
    """A width or a height that is not above 0."""

    def __init__(self):
        NoAnswer.__init__(self, "a width and a height are above 0")


class NotFilled(NoAnswer):
    """The panes do not fill the rectangle."""

    def __init__(self):
        NoAnswer.__init__(self, "the panes do not fill the rectangle")


class TooMany(NoAnswer):
    """More than the limit."""

    def __init__(self, limit):
        NoAnswer.__init__(self, "this goes beyond the limit")
        self.limit = limit


class Outside(NoAnswer):
    """A pane that does not lie in the square."""

    def __init__(self):
        NoAnswer.__init__(self, "the pane does not lie in the square")


class Overlaps(NoAnswer):
    """A pane on another one: the index of the first such pane."""

    def __init__(self, index):
        NoAnswer.__init__(self, "the pane lies on another one")
        self.index = index


class NothingToUndo(NoAnswer):
    """No change is left to be taken back."""

    def __init__(self):
        NoAnswer.__init__(self, "no change is left to be taken back")


class Broken(NoAnswer):
    """A claim that would not hold: its index, and what shows it."""

    def __init__(self, index, shown):
        NoAnswer.__init__(self, "a claim would not hold")
        self.index = index
        self.shown = shown
