"""Trips from one yard to another one."""

from emptypulls.errors import BadName, BadText, BadTrip
from emptypulls.kinds import is_integer_within, is_name


class Trip:
    """A trip from its start to its goal, at a price."""

    MOST = 99

    def __init__(self, start, goal, price=1):
        if not is_name(start):
            raise BadName(start)
        if not is_name(goal):
            raise BadName(goal)
        if start == goal:
            raise BadTrip("goal")
        if not is_price(price):
            raise BadTrip("price")
        self.start = start
        self.goal = goal
        self.price = price

    def __invert__(self):
        return Trip(self.goal, self.start, self.price)

    def priced(self, price):
        """The same trip with another price."""
        return Trip(self.start, self.goal, price)

    def touches(self, yard):
        """Whether any value is its start or its goal."""
        return yard in (self.start, self.goal)

    def __eq__(self, other):
        return (isinstance(other, Trip) and self.start == other.start
                and self.goal == other.goal and self.price == other.price)

    def __str__(self):
        return f"{self.start}>{self.goal} {self.price}"

    @classmethod
    def read(cls, text):
        """The trip with just this text."""
        if not isinstance(text, str):
            raise BadText(0, 0)
        words = text.split(" ")
        wrong = wrong_trip_word(words)
        if wrong is not None:
            raise BadText(0, wrong)
        start, goal = words[0].split(">")
        return cls(start, goal, int(words[1]))


def is_price(value):
    """Whether a value is an integer from 0 to 99."""
    return is_integer_within(value, 0, Trip.MOST)


def is_way_word(word):
    """Whether a word has two unlike names with > between."""
    ends = word.split(">")
    if len(ends) != 2 or ends[0] == ends[1]:
        return False
    return is_name(ends[0]) and is_name(ends[1])


def is_price_word(word):
    """Whether a word is a price as str writes it."""
    return word in [str(price) for price in range(Trip.MOST + 1)]


def wrong_trip_word(words):
    """The index of the first word of a trip that cannot stand or is missing; None if all fit."""
    if not is_way_word(words[0]):
        return 0
    if len(words) == 1 or not is_price_word(words[1]):
        return 1
    if len(words) > 2:
        return 2
    return None
