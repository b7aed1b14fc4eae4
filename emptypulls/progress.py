"""How far a depot has come."""

from emptypulls.errors import LeftStanding, NoTrailer
from emptypulls.stands import Stand, is_safe
from emptypulls.words import LEAVE, PULL


class Progress:
    """A tour, the stand, the index of the next trip, the tours and the cost so far. It never changes."""

    def __init__(self, tour, stand, index, rounds, cost):
        self.tour = tour
        self.stand = stand
        self.index = index
        self.rounds = rounds
        self.cost = cost

    def with_tour(self, tour):
        """The same with another tour."""
        return Progress(tour, self.stand, self.index, self.rounds, self.cost)

    def with_number(self, yard, many):
        """The same with another number of trailers at a yard of the tour."""
        stand = Stand({other: many if other == yard else self.stand[other] for other in self.tour.yards})
        return Progress(self.tour, stand, self.index, self.rounds, self.cost)

    def behind(self, word):
        """How far it has come behind the next trip, driven with this word."""
        stand = self.stand_behind(word)
        cost = self.cost
        if word == PULL:
            cost = cost + self.tour[self.index].price
        if self.index == len(self.tour) - 1:
            return Progress(self.tour, stand, 0, self.rounds + 1, cost)
        return Progress(self.tour, stand, self.index + 1, self.rounds, cost)

    def stand_behind(self, word):
        """The stand behind the next trip, driven with this word."""
        if word == LEAVE:
            return self.stand
        trip = self.tour[self.index]
        try:
            return self.stand.moved(trip.start, trip.goal)
        except NoTrailer as missing:
            if word == PULL:
                raise
            raise LeftStanding(self.index) from missing

    def is_well_behind(self, word):
        """Whether the next trip can be driven with this word, and the stand behind it is safe."""
        if word != LEAVE and self.tour[self.index].start not in self.stand:
            return False
        behind = self.behind(word)
        return is_safe(behind.tour >> behind.index, behind.stand)
