"""The errors: one base, three groups, and one class for each kind of failure."""

from emptypulls.kinds import copied


class PullError(ValueError):
    """The base of all errors of this package."""


class BadInput(PullError):
    """Something that was passed is not of the kind that is asked for."""


class Refused(PullError):
    """What was passed is of the right kind, but what is asked for cannot be done."""


class NoAnswer(PullError):
    """There is nothing yet that an answer could be about."""


# A field is copied, since what is done to an argument later must not reach the error.


class BadRate(BadInput):
    def __init__(self, part):
        self.part = copied(part)


class BadName(BadInput):
    def __init__(self, value):
        self.value = copied(value)


class BadTrip(BadInput):
    def __init__(self, part):
        self.part = copied(part)


class BadTour(BadInput):
    def __init__(self, part):
        self.part = copied(part)


class BadStand(BadInput):
    def __init__(self, part):
        self.part = copied(part)


class BadCount(BadInput):
    def __init__(self, value):
        self.value = copied(value)


class BadOrder(BadInput):
    def __init__(self, part):
        self.part = copied(part)


class BadLoads(BadInput):
    def __init__(self, at):
        self.at = copied(at)


class BadWord(BadInput):
    def __init__(self, value):
        self.value = copied(value)


class BadRule(BadInput):
    def __init__(self, part):
        self.part = copied(part)


class BadLog(BadInput):
    def __init__(self, at):
        self.at = copied(at)


class BadText(BadInput):
    def __init__(self, line, word):
        self.line = copied(line)
        self.word = copied(word)


class BadLine(BadInput):
    def __init__(self, word):
        self.word = copied(word)


class NoYard(Refused):
    def __init__(self, yard):
        self.yard = copied(yard)


class Unbalanced(Refused):
    def __init__(self, yard):
        self.yard = copied(yard)


class NoTrailer(Refused):
    def __init__(self, yard):
        self.yard = copied(yard)


class LeftStanding(Refused):
    def __init__(self, index):
        self.index = copied(index)


class Unsafe(Refused):
    def __init__(self, loads):
        self.loads = copied(loads)


class Strands(Refused):
    def __init__(self, loads):
        self.loads = copied(loads)


class TooMany(Refused):
    def __init__(self, what, most):
        self.what = copied(what)
        self.most = copied(most)


class NoDeed(NoAnswer):
    """There is no deed that could be taken back."""


class NoDepot(NoAnswer):
    """The desk has no depot."""
