"""How far a depot has come."""

from emptypulls.errors import LeftStanding, NoTrailer
from emptypulls.stands import Stand, is_safe_at
from emptypulls.words import LEAVE, LOAD, PULL


class Progress:
    """A tour, the stand, the index of the next trip, the tours and the cost so far. It never changes."""

    def __init__(self, tour, stand, index, rounds, cost):
        self.tour = tour
        self.stand = stand
        self.index = index
        self.rounds = rounds
        self.cost = cost

    def with_tour(self, tour):
        """The same with another tour."""
        return Progress(tour, self.stand, self.index, self.rounds, self.cost)

    def with_number(self, yard, many):
        """The same with another number of trailers at a yard of the tour."""
        stand = Stand({other: many if other == yard else self.stand[other] for other in self.tour.yards})
        return Progress(self.tour, stand, self.index, self.rounds, self.cost)

    def behind(self, word):
        """How far it has come behind the next trip, driven with this word."""
        stand = self.stand_behind(word)
        cost = self.cost
        if word == PULL:
            cost = cost + self.tour[self.index].price
        if self.index == len(self.tour) - 1:
            return Progress(self.tour, stand, 0, self.rounds + 1, cost)
        return Progress(self.tour, stand, self.index + 1, self.rounds, cost)

    def stand_behind(self, word):
        """The stand behind the next trip, driven with this word."""
        if word == LEAVE:
            return self.stand
        trip = self.tour[self.index]
        try:
            return self.stand.moved(trip.start, trip.goal)
        except NoTrailer as missing:
            if word == PULL:
                raise
            raise LeftStanding(self.index) from missing

    def fair_words(self):
        """The words with which the next trip can be driven so that the stand behind it is safe."""
        trip = self.tour[self.index]
        behind = (self.index + 1) % len(self.tour)
        words = []
        if trip.start in self.stand and is_safe_at(self.tour, behind, self.stand.moved(trip.start, trip.goal)):
            words.extend([LOAD, PULL])
        if is_safe_at(self.tour, behind, self.stand):
            words.append(LEAVE)
        return tuple(words)
