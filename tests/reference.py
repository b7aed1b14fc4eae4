"""A second, plain way to the answers, for the tests: trips are tuples, stands are tuples of numbers."""

import random
from itertools import permutations, product

from emptypulls.stands import Stand
from emptypulls.tours import Tour
from emptypulls.trips import Trip


def random_tour(chance, yards, rings):
    """A tour over some of these yards, made of rings whose trips are mixed."""
    ways = []
    for _ in range(rings):
        some = chance.sample(yards, chance.randint(2, min(len(yards), 4)))
        ways.extend(zip(some, some[1:] + some[:1]))
    chance.shuffle(ways)
    if len(ways) > 12:
        return random_tour(chance, yards, rings)
    return Tour(*(Trip(start, goal, chance.choice([0, 1, 2, 5, 9, 99])) for start, goal in ways))


def some_tours(seed, many, yards="abc", rings=2):
    """Small tours, the same ones for the same seed, some also turned about or begun later."""
    chance = random.Random(seed)
    tours = []
    for _ in range(many):
        tour = random_tour(chance, list(yards), chance.randint(1, rings))
        tours.append(tour >> chance.randrange(12))
    return tours


def indexes(tour):
    """The trips as pairs of indexes of their yards."""
    return [(tour.yards.index(trip.start), tour.yards.index(trip.goal)) for trip in tour]


def stand_at(tour, numbers):
    return Stand(dict(zip(tour.yards, numbers)))


def all_places(many, number):
    return [numbers for numbers in product(range(number + 1), repeat=many) if sum(numbers) == number]


def need_at(tour, index=0):
    """The need of the tour that begins at this index, by all its beginnings."""
    ways = indexes(tour)[index:] + indexes(tour)[:index]
    return tuple(
        max(sum((start == yard) - (goal == yard) for start, goal in ways[:many]) for many in range(len(ways) + 1))
        for yard in range(len(tour.yards)))


def moved(way, numbers):
    """The numbers behind a load or a pull; None if the start has no trailer."""
    start, goal = way
    if numbers[start] == 0:
        return None
    changed = list(numbers)
    changed[start] -= 1
    changed[goal] += 1
    return tuple(changed)


def is_kept(tour, number):
    """For each index and numbers with this sum: whether a puller can see to it that no load is left standing."""
    ways = indexes(tour)
    good = {(index, numbers) for index in range(len(ways)) for numbers in all_places(len(tour.yards), number)}
    while True:
        kept = set()
        for index, numbers in good:
            behind = (index + 1) % len(ways)
            driven = moved(ways[index], numbers)
            if driven is not None and (behind, driven) in good:
                kept.add((index, numbers))
        if kept == good:
            return good
        good = kept


def shortest_strandings(tour, numbers, most):
    """All shortest rows of at most so many loads behind which one is left standing whatever is chosen."""
    ways = indexes(tour)
    for many in range(1, most + 1):
        rows = []
        for row in product((False, True), repeat=many):
            stands = {numbers}
            for at, load in enumerate(row):
                driven = {moved(ways[at % len(ways)], stand) for stand in stands}
                stands = (driven if load else driven | stands) - {None}
            if not stands:
                rows.append(row)
        if rows:
            return rows
    return []


def rising_of(tour, order):
    return sum(trip.price for trip in tour if order.index(trip.start) < order.index(trip.goal))


def best_of(tour):
    """The greatest rising sum and all orders that have it, ascending."""
    sums = {order: rising_of(tour, order) for order in permutations(tour.yards)}
    most = max(sums.values())
    return most, sorted(order for order in sums if sums[order] == most)
