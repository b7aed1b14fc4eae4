"""The shapes of the parts of papers. Each check takes any value."""

from emptypulls.kinds import is_integer, is_integer_within


def is_place_of(many, value):
    """Whether a value is a tuple of so many integers from 0 on."""
    if not isinstance(value, tuple) or len(value) != many:
        return False
    return all([is_integer(part) and part >= 0 for part in value])


def is_place_with(many, number, value):
    """Whether a value is a place of so many yards with this number of spares."""
    return is_place_of(many, value) and sum(value) == number


def is_standing_of(trips, many, number, value):
    """Whether a value is a pair of an index below trips and a place of so many yards with this number of spares."""
    if not isinstance(value, tuple) or len(value) != 2:
        return False
    index, place = value
    return is_integer_within(index, 0, trips - 1) and is_place_with(many, number, place)


def is_state_of(trips, many, value):
    """Whether a value is a tuple of an index below trips and of the pairs of the numbers begun and now."""
    if not isinstance(value, tuple) or len(value) % 2 == 0 or not is_integer_within(value[0], 0, trips - 1):
        return False
    if not all([is_place_of(many, place) for place in value[1:]]):
        return False
    return value[0] > 0 or value[1::2] == value[2::2]


def is_row(value):
    """Whether a value is a tuple of bools."""
    return isinstance(value, tuple) and all([isinstance(load, bool) for load in value])


def are_integers(value):
    """Whether a value is a dict to integers."""
    return isinstance(value, dict) and all([is_integer(value[key]) for key in value])
