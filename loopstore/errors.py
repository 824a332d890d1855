"""The errors of the package. Each keeps just the fields that it is made with."""


class LoopError(ValueError):
    """The base of all errors of the package."""


class NoComers(LoopError):
    """Comers are no integer from 2 to 4."""

    def __init__(self):
        pass


class NoBound(LoopError):
    """A bound is no integer from 1 to 60."""

    def __init__(self):
        pass


class NoComings(LoopError):
    """Comings are no tuple of at most 400 integers from 0 to comers."""

    def __init__(self):
        pass


class NoSpot(LoopError):
    """A thing is no spot for these comers and this bound."""

    def __init__(self):
        pass


class NoWalk(LoopError):
    """A thing is no walk for these comers and this bound, or too long a one."""

    def __init__(self):
        pass


class BadTable(LoopError):
    """Loops or rows make no table; at is the number of the first wrong row, or -1."""

    def __init__(self, part, at):
        self.part = part
        self.at = at


class Meet(LoopError):
    """Two letters enter this loop at this tick."""

    def __init__(self, tick, loop):
        self.tick = tick
        self.loop = loop


class NoTick(LoopError):
    """A thing is no tick within the limits of the call."""

    def __init__(self):
        pass


class NoLoops(LoopError):
    """Loops are no tuple of 1 to 8 integers from 1 to 40."""

    def __init__(self):
        pass


class TooMany(LoopError):
    """There are more things than this many, the most that the call takes."""

    def __init__(self, most):
        self.most = most


class NotDoubling(LoopError):
    """Loops are not doubling."""

    def __init__(self):
        pass


class NoWait(LoopError):
    """A thing is no wait within the limits of the call."""

    def __init__(self):
        pass


class NoTotal(LoopError):
    """A total is no integer from 1 to 16."""

    def __init__(self):
        pass


class NoRow(LoopError):
    """A thing is no row for these loops."""

    def __init__(self):
        pass


class NoTold(LoopError):
    """A thing is no dict from waits to rows with these sums."""

    def __init__(self):
        pass


class NoStand(LoopError):
    """A thing is no stand for this bound."""

    def __init__(self):
        pass


class NoNumber(LoopError):
    """A number of letters is no integer from 0 to comers."""

    def __init__(self):
        pass


class NoLaying(LoopError):
    """A thing is no laying-out for this stand and this number."""

    def __init__(self):
        pass


class NoPlan(LoopError):
    """A thing is no closed list for these loops, comers and bound."""

    def __init__(self):
        pass


class NotKept(LoopError):
    """There is no closed list for these loops, comers and bound."""

    def __init__(self):
        pass


class NothingDone(LoopError):
    """There is nothing left that could be taken back."""

    def __init__(self):
        pass


class NotLost(LoopError):
    """There is no lost list for these loops, comers and bound."""

    def __init__(self):
        pass


class Over(LoopError):
    """The play is over: there is no laying-out now."""

    def __init__(self):
        pass


class NoLoop(LoopError):
    """A thing is no number of a loop."""

    def __init__(self):
        pass


class NoWeights(LoopError):
    """A thing is no weights for this bound."""

    def __init__(self):
        pass


class NoFraction(LoopError):
    """A thing is no fraction in lowest terms."""

    def __init__(self):
        pass


class OtherBounds(LoopError):
    """Two tables have unlike bounds."""

    def __init__(self):
        pass


class NoLetter(LoopError):
    """A thing is no number of a letter that has come."""

    def __init__(self):
        pass


class NoDay(LoopError):
    """A thing is no list or tuple of layings."""

    def __init__(self):
        pass


class BadText(LoopError):
    """A text cannot be read; line is the first wrong line, 0 for what is no string."""

    def __init__(self, line):
        self.line = line


class NoLine(LoopError):
    """A thing is no line of the desk."""

    def __init__(self):
        pass


class NoName(LoopError):
    """There is no table of this name."""

    def __init__(self, name):
        self.name = name


class BadTree(LoopError):
    """Nodes make no tree; at is the number of the first wrong node, or -1."""

    def __init__(self, at):
        self.at = at


class NoDoorings(LoopError):
    """A thing is no doorings for this tree."""

    def __init__(self):
        pass


class NoLong(LoopError):
    """A thing is no long comings, or no comings to repeat."""

    def __init__(self):
        pass


class NoPrices(LoopError):
    """A thing is no dict of prices."""

    def __init__(self):
        pass


class OtherTables(LoopError):
    """Two tables have unlike loops or unlike bounds."""

    def __init__(self):
        pass


class NoTables(LoopError):
    """A thing is no list or tuple of tables with the same loops and bound."""

    def __init__(self):
        pass


class NoTable(LoopError):
    """A thing is no number of one of the tables."""

    def __init__(self):
        pass
