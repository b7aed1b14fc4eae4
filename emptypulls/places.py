"""Places: how many spares each yard of a tour has, as tuples by the ascending yards."""

from math import comb

from emptypulls.errors import TooMany

MOST_STANDINGS = 400


def parted(number, many):
    """All tuples of so many numbers from 0 on with this sum, ascending."""
    if many == 1:
        yield (number,)
        return
    fewer = many - 1
    for first in range(number + 1):
        left = number - first
        for rest in parted(left, fewer):
            yield (first, *rest)


def places_of(tour, number):
    """The list of all places of so many spares, ascending."""
    many = len(tour.yards)
    return list(parted(number, many))


def count_of_places(tour, number):
    """How many places of so many spares there are."""
    others = len(tour.yards) - 1
    return comb(number + others, others)


def check_places(indexes, tour, number):
    """That there are not too many pairs of one of so many indexes and a place."""
    if indexes * count_of_places(tour, number) > MOST_STANDINGS:
        raise TooMany("places", MOST_STANDINGS)


def place_behind_leaving(tour, trip, place):
    """The place behind a trip that is left; None if this is not fair."""
    start = tour.yards.index(trip.start)
    goal = tour.yards.index(trip.goal)
    if place[goal] == 0:
        return None
    numbers = list(place)
    numbers[start] = numbers[start] + 1
    numbers[goal] = numbers[goal] - 1
    return tuple(numbers)
