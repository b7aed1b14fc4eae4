"""What the tests share: values of all kinds, strict equality, and a look at raised errors."""

import unittest

from emptypulls import errors
from emptypulls.compare import Cheap
from emptypulls.depots import Depot
from emptypulls.desk import Desk
from emptypulls.games import Priced, Pulling
from emptypulls.known import Known, Rings
from emptypulls.lookers import Looker
from emptypulls.orders import Rising
from emptypulls.rates import Rate
from emptypulls.rules import Always, Levels, Moment
from emptypulls.seen import Fits
from emptypulls.stands import Stand
from emptypulls.tours import Tour
from emptypulls.trips import Trip

FIELDS = {
    "BadRate": ("part",), "BadName": ("value",), "BadTrip": ("part",), "BadTour": ("part",),
    "BadStand": ("part",), "BadCount": ("value",), "BadOrder": ("part",), "BadLoads": ("at",),
    "BadWord": ("value",), "BadRule": ("part",), "BadLog": ("at",), "BadText": ("line", "word"),
    "BadLine": ("word",),
    "NoYard": ("yard",), "Unbalanced": ("yard",), "NoTrailer": ("yard",),
    "LeftStanding": ("index",), "Unsafe": ("loads",), "Strands": ("loads",),
    "TooMany": ("what", "most"),
    "NoDeed": (), "NoDepot": (),
}


def any_values():
    """Fresh values of all the kinds that the document calls any value."""
    both = Tour.there_and_back("a", "b")
    return [
        None, True, False, 0, 1, -1, 2, 10 ** 59, -10 ** 59, "", "a", "b", "A", "a b", " ", "a\n",
        "1", "-", "a>b 1", "abcdefghi", "x" * 3000, (), ("a",), (1, 2), [], ["a"], [1, [2, {}]],
        {}, {"a": 1}, {1: "a", (1, None): [2]}, nested(20), Rate(1), Rate(1, 2), Trip("a", "b"),
        both, errors.BadRate("top"), errors.NoDeed(), [Rate(1)], Stand({}), Stand({"a": 1}), [Stand({})],
        Depot(both, Stand({"a": 1})), Rising(1, ("a", "b"), {(): 0}), Known(Rate(1), (0, 1), ("load",), {}),
        Rings(1, None, [both]), Always(), Levels({"a": 1}), Moment(both, 0, Stand({"a": 1}), Stand({"a": 1})),
        Priced(Rate(1), Pulling(Rate(1), {(0, (0, 1)): 2}), None), Cheap({}), Fits({"a": 1}, ["a"]),
        Looker(both), Desk(), (True,), [False, False], {"a": True}, {"a": -1}, {"A": 1}, {True: 1},
    ]


def nested(deep):
    value = 0
    for _ in range(deep):
        value = [value]
    return value


def same(one, other):
    """Whether two values are equal in their kinds, too."""
    if type(one) is not type(other):
        return False
    if isinstance(one, (list, tuple)):
        return len(one) == len(other) and all(map(same, one, other))
    if isinstance(one, dict):
        return same(sorted(one, key=repr), sorted(other, key=repr)) and all(same(one[key], other[key]) for key in one)
    return one == other


class Case(unittest.TestCase):
    def assert_same(self, one, other):
        self.assertTrue(same(one, other), f"{one!r} is not {other!r}")

    def assert_raises(self, name, fields, work, *args, **named):
        """That just this error with just these fields is raised."""
        with self.assertRaises(errors.PullError) as caught:
            work(*args, **named)
        error = caught.exception
        self.assertIs(type(error), getattr(errors, name), f"{error!r}")
        self.assert_same([getattr(error, field) for field in FIELDS[name]], list(fields))
