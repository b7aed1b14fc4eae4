"""Checks of arguments for which any value may come. Each raises the error that is told for its parameter."""

from emptypulls.errors import BadCount, BadLoads, BadOrder, BadTour
from emptypulls.kinds import is_integer_within
from emptypulls.tours import Tour

MOST_SPARES = 6
MOST_LOADS = 48


def check_tour(value, name):
    """Name is that of the parameter."""
    if not isinstance(value, Tour):
        raise BadTour(name)


def check_number(number):
    """A number of spares."""
    if not is_integer_within(number, 0, MOST_SPARES):
        raise BadCount(number)


def check_order(tour, order):
    """An order of the yards of a tour."""
    if not isinstance(order, (list, tuple)) or len(order) != len(tour.yards):
        raise BadOrder("order")
    # There are as many items as yards, so with all yards among them none is there twice.
    if not all([yard in order for yard in tour.yards]):
        raise BadOrder("order")


def check_loads(tour, loads):
    """A known row of loads of whole tours."""
    if not isinstance(loads, (list, tuple)) or not 1 <= len(loads) <= MOST_LOADS:
        raise BadLoads(None)
    if len(loads) % len(tour) != 0:
        raise BadLoads(None)
    for at, load in enumerate(loads):
        if not isinstance(load, bool):
            raise BadLoads(at)
