"""Depots: live tours, whose deeds can be tried and taken back."""

from emptypulls.arguments import check_tour
from emptypulls.errors import BadCount, BadTour, BadWord, NoDeed, NoYard
from emptypulls.kinds import Twinned, is_integer, is_integer_within
from emptypulls.progress import Progress
from emptypulls.stands import check_stand, spares_at
from emptypulls.words import WORDS


class Trial:
    """A block behind which a depot is as it was when the block began."""

    def __init__(self, depot):
        self.depot = depot

    def __enter__(self):
        self.now = self.depot._now
        self.words = list(self.depot._words)
        self.past = list(self.depot._past)
        return self.depot

    def __exit__(self, kind, value, trace):
        depot = self.depot
        depot._now = self.now
        depot._words = self.words
        depot._past = self.past


class Depot(Twinned):
    """A tour, the trailers at its yards, the index of the next trip, and what was paid."""

    def __init__(self, tour, stand, index=0, paid=0):
        check_tour(tour, "tour")
        check_stand(tour, stand)
        if not is_integer_within(index, 0, len(tour) - 1):
            raise BadCount(index)
        if not is_count(paid):
            raise BadCount(paid)
        self._now = Progress(tour, stand, index, 0, paid)
        self._words = []
        # For each deed its word, and how far the depot and the driven words had come ahead of it.
        self._past = []

    @property
    def stand_now(self):
        return self._now.stand

    @property
    def next_index(self):
        return self._now.index

    @property
    def laps(self):
        return self._now.rounds

    @property
    def paid(self):
        return self._now.cost

    @property
    def driven(self):
        return tuple(self._words)

    @property
    def deeds(self):
        return len(self._past)

    @property
    def tour_now(self):
        return self._now.tour

    @tour_now.setter
    def tour_now(self, value):
        self.set_tour(value)

    def set_tour(self, tour):
        """Goes another tour from its beginning."""
        check_tour(tour, "tour")
        if self._now.index != 0:
            raise BadTour("index")
        check_stand(tour, self._now.stand)
        self._do("tour", self._now.with_tour(tour), [])

    def drive(self, word):
        """Drives the next trip and returns what is paid."""
        check_word(word)
        return self._go("drive", [word])

    def run(self, *words):
        """Drives several trips, or none of them if one cannot be driven, and returns what is paid."""
        for word in words:
            check_word(word)
        return self._go("run", words)

    def __iadd__(self, other):
        self.drive(other)
        return self

    def _go(self, deed, words):
        now = self._now
        for word in words:
            now = now.behind(word)
        cost = now.cost - self._now.cost
        self._do(deed, now, words)
        return cost

    def _do(self, deed, now, words):
        """Makes the depot as it is behind a deed. All that can fail was done ahead of it."""
        self._past.append((deed, self._now, len(self._words)))
        self._now = now
        self._words.extend(words)

    def __getitem__(self, at):
        self._check_yard(at)
        return self._now.stand[at]

    def __setitem__(self, at, worth):
        self.put(at, worth)

    def __contains__(self, x):
        return x in self._now.tour.yards

    def __iter__(self):
        raise TypeError("a depot is no row")

    def put(self, yard, many):
        """Makes the number of trailers at a yard another one."""
        self._check_yard(yard)
        if not is_count(many):
            raise BadCount(many)
        self._do("put", self._now.with_number(yard, many), [])

    def drop(self, yard):
        """Takes all trailers from a yard."""
        self._check_yard(yard)
        self._do("drop", self._now.with_number(yard, 0), [])

    def _check_yard(self, yard):
        if yard not in self:
            raise NoYard(yard)

    def spares_now(self):
        """The spares ahead of the next trip."""
        return spares_at(self._now.tour, self._now.index, self._now.stand)

    def fair_words(self):
        """The words that can be driven next and behind which the stand is safe."""
        return self._now.fair_words()

    def undo(self):
        """Takes back the last deed and returns its word."""
        if len(self._past) == 0:
            raise NoDeed()
        deed, now, many = self._past.pop()
        self._now = now
        del self._words[many:]
        return deed

    def trial(self):
        """For `with`: behind the block the depot is as it was when the block began."""
        return Trial(self)

    def tried(self, work):
        """What work returns for this depot, which is then as it was."""
        with self.trial() as same:
            return work(same)

    def twin(self):
        """An equal depot with nothing to take back, that goes its own way."""
        made = Depot(self.tour_now, self.stand_now, self.next_index, self.paid)
        made._now = self._now
        made._words = list(self._words)
        return made

    def branch(self):
        """An equal depot that can take back the same deeds, and goes its own way."""
        made = self.twin()
        made._past = list(self._past)
        return made

    def __eq__(self, other):
        return (isinstance(other, Depot) and self.tour_now == other.tour_now and self.stand_now == other.stand_now
                and self.next_index == other.next_index and self.laps == other.laps
                and self.paid == other.paid and self._words == other._words)


def is_count(value):
    """Whether any value is an integer from 0 on."""
    return is_integer(value) and value >= 0


def check_word(value):
    """Any value as a word that can be driven."""
    if value not in WORDS:
        raise BadWord(value)
