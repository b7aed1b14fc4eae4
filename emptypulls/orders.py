"""Orders of the yards of a tour, and the prices of the trips that rise in them."""

from emptypulls.arguments import check_order, check_tour
from emptypulls.errors import BadTour
from emptypulls.kinds import Twinned, are_same, copied


class Rising(Twinned):
    """A paper: the greatest rising sum, an order that has it, and marks by which no order has more."""

    def __init__(self, number, order, marks):
        self.number = copied(number)
        self.order = copied(order)
        self.marks = copied(marks)

    def twin(self):
        """An equal paper with lists and dicts of its own."""
        return Rising(self.number, self.order, self.marks)

    def __eq__(self, other):
        return (isinstance(other, Rising) and are_same(self.number, other.number)
                and are_same(self.order, other.order) and are_same(self.marks, other.marks))


def rising(tour, order):
    """The sum of the prices of the trips that rise in an order."""
    check_tour(tour, "tour")
    check_order(tour, order)
    return rising_sum(tour, order)


def down(tour, order):
    """The indexes of the trips that do not rise in an order."""
    check_tour(tour, "tour")
    check_order(tour, order)
    return tuple([at for at, trip in enumerate(tour.trips) if not rises(trip, order)])


def loads_of(tour, order):
    """The loads of one tour that has them on just the trips that do not rise in an order."""
    check_tour(tour, "tour")
    check_order(tour, order)
    return tuple([not rises(trip, order) for trip in tour.trips])


def greatest_rising(tour):
    """The greatest rising sum, the first order that has it, and marks."""
    check_tour(tour, "tour")
    marks = marks_of(tour)
    return Rising(marks[tour.yards], first_order([tour]), marks)


def best_orders(tour):
    """All orders with the greatest rising sum, ascending."""
    check_tour(tour, "tour")
    most = greatest_sum(tour)
    for order in orders_of(tour.yards):
        if rising_sum(tour, order) == most:
            yield order


def common_order(one, other):
    """The first order that has the greatest rising sum of two tours; None if there is none."""
    check_tour(one, "one")
    check_tour(other, "other")
    if one.yards != other.yards:
        raise BadTour("yards")
    return first_order([one, other])


def first_order(tours):
    """The first order that has the greatest rising sum of each of these tours; None if there is none."""
    most = [greatest_sum(tour) for tour in tours]
    yards = tours[0].yards
    for order in orders_of(yards):
        if [rising_sum(tour, order) for tour in tours] == most:
            return order
    return None


def rises(trip, order):
    """Whether a trip rises in an order."""
    return order.index(trip.start) < order.index(trip.goal)


def rising_sum(tour, order):
    """The rising sum of what is an order of the yards of the tour."""
    return sum([trip.price for trip in tour.trips if rises(trip, order)])


def orders_of(yards):
    """All orders of an ascending tuple of yards, ascending."""
    if len(yards) == 0:
        yield ()
    for first in yards:
        others = without(yards, first)
        for rest in orders_of(others):
            yield (first, *rest)


def without(yards, yard):
    """A tuple of yards without one of them."""
    return tuple([other for other in yards if other != yard])


def lots_of(yards):
    """All ascending tuples of some of these ascending yards, each behind all those of fewer of its yards."""
    lots = [()]
    for yard in yards:
        lots = lots + [(*lot, yard) for lot in lots]
    return lots


def marks_of(tour):
    """For each lot of yards the greatest rising sum that the trips between them have in an order."""
    marks = {(): 0}
    for lot in lots_of(tour.yards)[1:]:
        # Each yard of the lot may be the last one of them: then all trips of the lot to it rise.
        marks[lot] = max([int(marks[without(lot, last)] + sum_into(tour, lot, last)) for last in lot])
    return marks


def sum_into(tour, lot, yard):
    """The sum of the prices of the trips from yards of a lot to a yard."""
    return sum([trip.price for trip in tour.trips if trip.goal == yard and trip.start in lot])


def greatest_sum(tour):
    """The greatest rising sum of a tour."""
    return marks_of(tour)[tour.yards]
