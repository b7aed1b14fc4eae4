"""What makes papers right, as the document tells it, word by word, for the tests."""

from fractions import Fraction
from itertools import product

from driving import all_standings, duel_steps, first_state, left, rule_step
from emptypulls.compare import Cheap, Dearer
from emptypulls.games import Least, Pressing, Priced, Pulling
from emptypulls.known import Known, Rings
from emptypulls.orders import Rising
from emptypulls.rates import Rate
from emptypulls.rules import Worst
from reference import all_places, indexes, rising_of


def is_int(value):
    return type(value) is int


def is_row(value, most):
    return type(value) is tuple and len(value) <= most and all(type(load) is bool for load in value)


def are_int_tuples(value, shape):
    """Whether a value has the shape: int for an integer, a number for a tuple of so many from 0 on, else a tuple."""
    if shape is int:
        return is_int(value)
    if is_int(shape):
        return type(value) is tuple and len(value) == shape and all(is_int(part) and part >= 0 for part in value)
    return type(value) is tuple and len(value) == len(shape) and all(map(are_int_tuples, value, shape))


def weight(rate, paid, ends):
    return rate.bottom * paid - (rate.top if ends else 0)


def is_right_rising(tour, paper):
    """Whether a paper is a Rising that is right; its order need not be the first one."""
    if type(paper) is not Rising or not is_int(paper.number) or type(paper.order) is not tuple:
        return False
    if len(paper.order) != len(tour.yards) or not all(yard in paper.order for yard in tour.yards):
        return False
    lots = [tuple(yard for yard, is_in in zip(tour.yards, some) if is_in)
            for some in product((False, True), repeat=len(tour.yards))]
    if type(paper.marks) is not dict or set(paper.marks) != set(lots) or not all(map(is_int, paper.marks.values())):
        return False
    for lot in lots:
        for yard in set(tour.yards) - set(lot):
            into = sum(trip.price for trip in tour if trip.goal == yard and trip.start in lot)
            if paper.marks[tuple(sorted((*lot, yard)))] < paper.marks[lot] + into:
                return False
    return paper.marks[()] == 0 and paper.marks[tour.yards] == paper.number == rising_of(tour, paper.order)


def known_steps(tour, loads, index, place):
    """The words that can be driven there, what is paid, and the place behind."""
    trip = tour[index % len(tour)]
    if loads[index]:
        return {"load": (0, place)}
    found = {"pull": (trip.price, place)}
    behind = left(indexes(tour)[index % len(tour)], place)
    if behind is not None:
        found["leave"] = (0, behind)
    return found


def is_right_known(tour, loads, number, paper):
    """Whether a paper is a Known that is right, by a look at every step of every standing."""
    places = all_places(len(tour.yards), number)
    if type(paper) is not Known or type(paper.rate) is not Rate or type(paper.words) is not tuple:
        return False
    if not are_int_tuples(paper.start, len(tour.yards)) or not all(type(word) is str for word in paper.words):
        return False
    if paper.start not in places or not 1 <= len(paper.words) <= 1000 or len(paper.words) % len(loads) != 0:
        return False
    place, paid = paper.start, 0
    for at, word in enumerate(paper.words):
        found = known_steps(tour, loads, at % len(loads), place)
        if word not in found:
            return False
        cost, place = found[word]
        paid += cost
    if place != paper.start or paper.rate != Rate(paid, len(paper.words) // len(tour)):
        return False
    return are_right_heights(tour, loads, places, paper)


def are_right_heights(tour, loads, places, paper):
    if type(paper.heights) is not dict or set(paper.heights) != set(product(range(len(loads)), places)):
        return False
    shape = (int, len(tour.yards))
    if not all(are_int_tuples(key, shape) and is_int(height) for key, height in paper.heights.items()):
        return False
    for index, place in paper.heights:
        last = (index + 1) % len(tour) == 0
        for cost, behind in known_steps(tour, loads, index, place).values():
            behind_height = paper.heights[(index + 1) % len(loads), behind]
            if paper.heights[index, place] > weight(paper.rate, cost, last) + behind_height:
                return False
    return True


def is_right_rings(tour, loads, paper):
    """Whether a paper is a Rings that is right."""
    unloaded = [index for index, load in enumerate(loads) if not load]
    trips = {index: tour[index % len(tour)] for index in unloaded}
    if type(paper) is not Rings or type(paper.rate) is not Rate or type(paper.left) is not tuple:
        return False
    if not all(map(is_int, paper.left)) or type(paper.heights) is not dict:
        return False
    if list(paper.left) != sorted(set(paper.left)) or not set(paper.left) <= set(unloaded):
        return False
    lot = [trips[index] for index in paper.left]
    if not is_level(lot):
        return False
    rest = sum(trip.price for index, trip in trips.items() if index not in paper.left)
    if paper.rate != Rate(rest, len(loads) // len(tour)) or set(paper.heights) != set(tour.yards):
        return False
    if not all(type(height) is int for height in paper.heights.values()):
        return False
    most = sum(max(0, trip.price + paper.heights[trip.start] - paper.heights[trip.goal]) for trip in trips.values())
    return most == sum(trip.price for trip in lot)


def is_level(trips):
    return sorted(trip.start for trip in trips) == sorted(trip.goal for trip in trips)


def are_right_standings(tour, number, paper):
    if type(paper.heights) is not dict or type(paper.rate) is not Rate:
        return False
    shape = (int, len(tour.yards))
    if not all(are_int_tuples(key, shape) and is_int(height) for key, height in paper.heights.items()):
        return False
    return set(paper.heights) <= set(all_standings(tour, number))


def is_right_pulling(tour, number, paper):
    if type(paper) is not Pulling or not are_right_standings(tour, number, paper):
        return False

    def holds(height, step):
        paid, ends, behind = step
        return behind in paper.heights and weight(paper.rate, paid, ends) + paper.heights[behind] <= height

    for standing, height in paper.heights.items():
        loaded, unloaded = duel_steps(tour, standing)
        if not holds(height, loaded) or not any(holds(height, step) for step in unloaded):
            return False
    return True


def is_right_pressing(tour, number, paper):
    if type(paper) is not Pressing or not are_right_standings(tour, number, paper):
        return False

    def holds(height, step):
        paid, ends, behind = step
        return behind in paper.heights and weight(paper.rate, paid, ends) + paper.heights[behind] >= height

    for standing, height in paper.heights.items():
        loaded, unloaded = duel_steps(tour, standing)
        if not holds(height, loaded) and not all(holds(height, step) for step in unloaded):
            return False
    return True


def are_right_sides(tour, number, paper):
    """Whether both papers of a Priced or a Least are right, with its rate."""
    if type(paper.rate) is not Rate or not is_right_pulling(tour, number, paper.pulling):
        return False
    return (is_right_pressing(tour, number, paper.pressing)
            and paper.pulling.rate == paper.rate == paper.pressing.rate)


def is_right_priced(tour, place, paper):
    """Place is that of the spares of the stand."""
    if type(paper) is not Priced or not are_right_sides(tour, sum(place), paper):
        return False
    return (0, place) in paper.pulling.heights and (0, place) in paper.pressing.heights


def is_right_least(tour, number, paper):
    if type(paper) is not Least or not are_right_sides(tour, number, paper):
        return False
    places = all_places(len(tour.yards), number)
    if not are_int_tuples(paper.start, len(tour.yards)) or (0, paper.start) not in paper.pulling.heights:
        return False
    return all((0, place) in paper.pressing.heights for place in places)


def is_right_worst(tour, rule, stand, paper):
    if type(paper) is not Worst or type(paper.rate) is not Rate or type(paper.heights) is not dict:
        return False
    if not all(is_row(row, 4000) and len(row) % len(tour) == 0 for row in (paper.row, paper.ring)) or not paper.ring:
        return False
    first = first_state(tour, stand)
    if not are_right_states(tour, rule, paper) or first not in paper.heights:
        return False
    _, begun = driven(tour, rule, first, paper.row)
    if begun is None:
        return False
    paid, behind = driven(tour, rule, begun, paper.ring)
    return begun == behind and paper.rate == Rate(paid, len(paper.ring) // len(tour))


def driven(tour, rule, state, row):
    """What is paid in a row, and the state behind it; None if a load is left standing."""
    paid = 0
    for load in row:
        step = rule_step(tour, rule, state, load)
        if step is None:
            return None, None
        paid, state = paid + step[0], step[2]
    return paid, state


def are_right_states(tour, rule, paper):
    many = len(tour.yards)
    for state, height in paper.heights.items():
        if not are_int_tuples(state, (int, many, many)) or not is_int(height) or not 0 <= state[0] < len(tour):
            return False
        if state[0] == 0 and state[1] != state[2]:
            return False
    for state, height in paper.heights.items():
        for load in (False, True):
            step = rule_step(tour, rule, state, load)
            if step is None or step[2] not in paper.heights:
                return False
            if weight(paper.rate, step[0], step[1]) + paper.heights[step[2]] > height:
                return False
    return True


def is_right_compared(tour, one, other, stand, paper):
    first = first_state(tour, stand)
    if type(paper) is Dearer:
        if not is_row(paper.loads, 10 ** 9):
            return False
        paid, paid_other = (driven(tour, rule, first, paper.loads)[0] for rule in (one, other))
        return None not in (paid, paid_other) and paid > paid_other
    return type(paper) is Cheap and are_right_marks(tour, one, other, (*first, *first[1:]), paper.marks)


def are_right_marks(tour, one, other, first, marks):
    many = len(tour.yards)
    if type(marks) is not dict or not is_int(marks.get(first)) or marks[first] != 0:
        return False
    for key, mark in marks.items():
        if not are_int_tuples(key, (int, many, many, many, many)) or not is_int(mark) or mark > 0:
            return False
        if not 0 <= key[0] < len(tour) or (key[0] == 0 and (key[1] != key[2] or key[3] != key[4])):
            return False
    for key, mark in marks.items():
        for load in (False, True):
            steps = rule_step(tour, one, key[:3], load), rule_step(tour, other, (key[0], *key[3:]), load)
            if None in steps:
                return False
            behind = (*steps[0][2], *steps[1][2][1:])
            if behind not in marks or marks[behind] < mark + steps[0][0] - steps[1][0]:
                return False
    return True


def fraction(rate):
    return Fraction(rate.top, rate.bottom)
