"""Which first stands explain what was seen at one trip after another."""

from emptypulls.arguments import check_tour
from emptypulls.errors import BadCount, BadLog
from emptypulls.kinds import Twinned, are_same, copied, is_integer
from emptypulls.words import ENTRIES, MISSED, NONE

MOST_ENTRIES = 240


class Fits(Twinned):
    """A paper: the least numbers of the first stands that explain a log, and the yards where all have the same."""

    def __init__(self, least, known):
        self.least = copied(least)
        self.known = copied(known)

    def twin(self):
        """An equal paper with lists and dicts of its own."""
        return Fits(self.least, self.known)

    def __eq__(self, other):
        return isinstance(other, Fits) and are_same(self.least, other.least) and are_same(self.known, other.known)


class Trace:
    """What a log tells of the first number of trailers at each yard, as far as it was read."""

    def __init__(self, tour):
        self.least = {yard: 0 for yard in tour.yards}
        self.known = {}
        # How many more trailers each yard has now than at first.
        self.more = {yard: 0 for yard in tour.yards}

    def takes_in(self, trip, entry):
        """Reads the entry of a trip; whether a first stand still explains all."""
        first = -self.more[trip.start]
        if entry == MISSED:
            return self._is_number(trip.start, first)
        if entry == NONE:
            return True
        self.more[trip.start] = self.more[trip.start] - 1
        self.more[trip.goal] = self.more[trip.goal] + 1
        return self._is_above(trip.start, first)

    def _is_number(self, yard, number):
        """Takes in that a yard had just this number; whether that can be."""
        can_be = self.least[yard] <= number and self.known.get(yard, number) == number
        self.least[yard] = number
        self.known[yard] = number
        return can_be

    def _is_above(self, yard, number):
        """Takes in that a yard had more than this number; whether that can be."""
        can_be = yard not in self.known or self.known[yard] > number
        if self.least[yard] <= number:
            self.least[yard] = number + 1
        return can_be

    def fits(self, whole):
        """The paper for stands of so many trailers in all, or any; None if there is none."""
        free = [yard for yard in self.least if yard not in self.known]
        more = 0 if whole is None else whole - sum([self.least[yard] for yard in self.least])
        if more < 0 or (more > 0 and len(free) == 0):
            return None
        least = dict(self.least)
        if len(free) == 1:
            least[free[0]] = least[free[0]] + more
        if whole is not None and (more == 0 or len(free) == 1):
            return Fits(least, tuple(least))
        return Fits(least, tuple([yard for yard in least if yard in self.known]))


def first_stands(tour, log, whole=None):
    """Which stands explain a log, of so many trailers in all; None if none does."""
    check_tour(tour, "tour")
    check_log(log)
    check_whole(whole)
    trace = Trace(tour)
    if first_unexplained(tour, log, trace) is not None:
        return None
    return trace.fits(whole)


def unexplained(tour, log):
    """The index of the first entry with which no stand explains the log up to it; None if all are explained."""
    check_tour(tour, "tour")
    check_log(log)
    return first_unexplained(tour, log, Trace(tour))


def first_unexplained(tour, log, trace):
    """Reads a log up to the first entry that cannot be explained, and returns its index; None if there is none."""
    for at, entry in enumerate(log):
        if not trace.takes_in(tour[at % len(tour)], entry):
            return at
    return None


def check_log(log):
    """Any value as a log."""
    if not isinstance(log, (list, tuple)) or len(log) > MOST_ENTRIES:
        raise BadLog(None)
    for at, entry in enumerate(log):
        if entry not in ENTRIES:
            raise BadLog(at)


def check_whole(whole):
    """Any value as the number of all trailers, or None."""
    if whole is not None and (not is_integer(whole) or whole < 0):
        raise BadCount(whole)
