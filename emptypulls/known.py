"""What a row of loads costs that is known ahead and comes again and again."""

from emptypulls.arguments import check_loads, check_number, check_tour
from emptypulls.kinds import Twinned, are_same, copied
from emptypulls.lots import greatest_lot, lot_heights
from emptypulls.places import check_places, place_behind_leaving, places_of
from emptypulls.rates import Rate
from emptypulls.rounds import free_ring, heights_of, least_mean, weighed
from emptypulls.words import LEAVE, LOAD, PULL


class Known(Twinned):
    """A paper: the price of a known row, words that cost it, and heights by which no words cost less."""

    def __init__(self, rate, start, words, heights):
        self.rate = copied(rate)
        self.start = copied(start)
        self.words = copied(words)
        self.heights = copied(heights)

    def twin(self):
        """An equal paper with lists and dicts of its own."""
        return Known(self.rate, self.start, self.words, self.heights)

    def __eq__(self, other):
        return (isinstance(other, Known) and are_same(self.rate, other.rate) and are_same(self.start, other.start)
                and are_same(self.words, other.words) and are_same(self.heights, other.heights))


class Rings(Twinned):
    """A paper: the price with any number of spares, trips that are left, and heights by which none costs less."""

    def __init__(self, rate, left, heights):
        self.rate = copied(rate)
        self.left = copied(left)
        self.heights = copied(heights)

    def twin(self):
        """An equal paper with lists and dicts of its own."""
        return Rings(self.rate, self.left, self.heights)

    def __eq__(self, other):
        return (isinstance(other, Rings) and are_same(self.rate, other.rate)
                and are_same(self.left, other.left) and are_same(self.heights, other.heights))


def known_price(tour, loads, number):
    """The price of a known row for so many spares."""
    check_tour(tour, "tour")
    check_loads(tour, loads)
    check_number(number)
    check_places(len(loads), tour, number)
    places = places_of(tour, number)
    layers = [layer_of(tour, index, load, places) for index, load in enumerate(loads)]
    rate = least_mean(layers).over(tours_of(tour, loads))
    weights = weighed(layers, rate, len(tour))
    heights = heights_of(weights)
    start, words = free_ring(weights, heights)
    return Known(rate, start, words, heights)


def tours_of(tour, loads):
    """The number of tours of a known row."""
    return len(loads) // len(tour)


def layer_of(tour, index, load, places):
    """For each place the steps of a trip of a known row: tuples of a word, its price, and the place behind."""
    trip = tour[index % len(tour)]
    return {place: steps_from(tour, trip, load, place) for place in places}


def steps_from(tour, trip, load, place):
    """The steps of a trip from a place."""
    if load:
        return [(LOAD, 0, place)]
    behind = place_behind_leaving(tour, trip, place)
    if behind is None:
        return [(PULL, trip.price, place)]
    return [(PULL, trip.price, place), (LEAVE, 0, behind)]


def endless_price(tour, loads):
    """The price of a known row with any number of spares."""
    check_tour(tour, "tour")
    check_loads(tour, loads)
    unloaded = [index for index, load in enumerate(loads) if not load]
    trips = [tour[index % len(tour)] for index in unloaded]
    chosen = greatest_lot(trips)
    left = tuple([index for index, is_chosen in zip(unloaded, chosen) if is_chosen])
    pulled = sum([trip.price for trip, is_chosen in zip(trips, chosen) if not is_chosen])
    return Rings(Rate(pulled, tours_of(tour, loads)), left, lot_heights(tour.yards, trips, chosen))
