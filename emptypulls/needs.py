"""What the yards of a tour need at an index. Numbers of trailers are dicts from the yards here."""


def trips_from(tour, index):
    """The trips of a tour from an index on, all round."""
    return tour.trips[index:] + tour.trips[:index]


def needs_at(tour, index):
    """For each yard the most trailers that a beginning takes from there above those that it brings there."""
    gone = {yard: 0 for yard in tour.yards}
    most = {yard: 0 for yard in tour.yards}
    for trip in trips_from(tour, index):
        taken = gone[trip.start] + 1
        gone[trip.start] = taken
        gone[trip.goal] = gone[trip.goal] - 1
        if taken > most[trip.start]:
            most[trip.start] = taken
    return most


def are_enough(numbers, needs):
    """Whether each yard has at least its need."""
    for yard in needs:
        if numbers[yard] < needs[yard]:
            return False
    return True


def loads_until_missing(tour, index, numbers):
    """How many loads come until the first one whose start has no trailer; None if all of a tour are driven."""
    now = dict(numbers)
    for many, trip in enumerate(trips_from(tour, index), start=1):
        if now[trip.start] == 0:
            return many
        now[trip.start] = now[trip.start] - 1
        now[trip.goal] = now[trip.goal] + 1
    return None
