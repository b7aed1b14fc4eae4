"""Checks of the kinds of values, copies of values, and what makes two values equal."""

LONGEST_NAME = 8


class Twinned:
    """The base of those objects of this package that change, or that have lists and dicts of the caller."""

    def twin(self):
        """An equal object that shares nothing that changes with this one."""
        raise NotImplementedError("each class has its own")


def is_integer(value):
    """Whether a value is an int, but no bool."""
    return isinstance(value, int) and not isinstance(value, bool)


def is_integer_within(value, least, most):
    """Whether a value is an integer from least to most."""
    return is_integer(value) and least <= value <= most


def is_name(value):
    """Whether a value is a string of 1 to 8 letters from a to z."""
    if not isinstance(value, str) or len(value) > LONGEST_NAME:
        return False
    return value.isascii() and value.isalpha() and value.islower()


def copied(value):
    """An equal value that shares no list and no dict with this one."""
    if isinstance(value, list):
        return [copied(part) for part in value]
    if isinstance(value, tuple):
        return tuple([copied(part) for part in value])
    if isinstance(value, dict):
        return {key: copied(value[key]) for key in value}
    if isinstance(value, Twinned):
        return value.twin()
    return value


def are_same(one, other):
    """Whether two values are equal, in their kinds, too: True is not 1."""
    if isinstance(one, bool) or isinstance(other, bool):
        return isinstance(one, bool) and isinstance(other, bool) and one == other
    if isinstance(one, (list, tuple)):
        return are_same_rows(one, other)
    if isinstance(one, dict):
        return are_same_tables(one, other)
    return bool(one == other)


def are_same_rows(row, other):
    """Whether a list or tuple and any value are both lists or both tuples, of the same items."""
    if not isinstance(other, (list, tuple)) or isinstance(row, list) != isinstance(other, list):
        return False
    return len(row) == len(other) and all([are_same(left, right) for left, right in zip(row, other)])


def are_same_tables(table, other):
    """Whether a dict and any value are both dicts, with the same keys and values in any order."""
    if not isinstance(other, dict) or len(table) != len(other):
        return False
    # Python finds 1 under the key True, so the key that is kept is looked at, too.
    kept = {key: key for key in other}
    return all([key in kept and are_same(key, kept[key]) and are_same(table[key], other[key]) for key in table])
