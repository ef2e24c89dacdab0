"""The errors of the package. Each one keeps the very objects that it was made of."""


class MomentError(ValueError):
    """What all errors of the package have in common; it is raised nowhere itself."""


class Bothered(MomentError):
    """A third thing matters between others: behind run, by the step at, for the things of some."""

    def __init__(self, run, some, at):
        self.run = run
        self.some = some
        self.at = at


class Endless(MomentError):
    """There is no greatest number."""


class IsThere(MomentError):
    """The thing comes, and is there."""

    def __init__(self, thing):
        self.thing = thing


class NoCommand(MomentError):
    """The words are no command."""


class NoIndex(MomentError):
    """There is nothing with this index."""

    def __init__(self, index):
        self.index = index


class NoOrder(MomentError):
    """The two classes of the pair have one rank, but not one way."""

    def __init__(self, pair):
        self.pair = pair


class NoText(MomentError):
    """The line, counted from 1, is the first bad one, or is lacking."""

    def __init__(self, line):
        self.line = line


class NotLet(MomentError):
    """The thing may not do the deed as it is."""

    def __init__(self, deed, thing):
        self.deed = deed
        self.thing = thing


class NotThere(MomentError):
    """The thing is not there."""

    def __init__(self, thing):
        self.thing = thing


class Nothing(MomentError):
    """There is nothing to take back, to do again or to take out."""


class NoWay(MomentError):
    """There is no run that brings it."""


class TooMany(MomentError):
    """There are more than most."""

    def __init__(self, most):
        self.most = most


class Unlike(MomentError):
    """The two have other numbers of kinds, deeds or rows than they should."""


class Wrong(MomentError):
    """The argument at the place, counted from 0, is not as described."""

    def __init__(self, place):
        self.place = place
