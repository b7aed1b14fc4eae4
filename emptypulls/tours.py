"""Tours: balanced rows of trips that are driven for ever."""

from emptypulls.errors import BadText, BadTour, TooMany, Unbalanced
from emptypulls.kinds import is_integer, is_name
from emptypulls.trips import Trip, is_price, is_price_word, is_way_word

MOST_TRIPS = 12
MOST_YARDS = 6
# What stands for no first yard: the strings that callers pass have no tabs.
NO_YARD = "\tno yard"


class Tour:
    """A row of 2 to 12 trips over 2 to 6 yards, each left as often as it is come to."""

    def __init__(self, *trips):
        if len(trips) < 2 or not all([isinstance(trip, Trip) for trip in trips]):
            raise BadTour("trips")
        if len(trips) > MOST_TRIPS:
            raise TooMany("trips", MOST_TRIPS)
        yards = yards_of(trips)
        if len(yards) > MOST_YARDS:
            raise TooMany("yards", MOST_YARDS)
        wrong = first_unbalanced(trips, yards)
        if wrong is not None:
            raise Unbalanced(wrong)
        self.trips = trips
        self.yards = yards

    @property
    def whole_price(self):
        return sum([trip.price for trip in self.trips])

    def __len__(self):
        return len(self.trips)

    def __iter__(self):
        return iter(self.trips)

    def __contains__(self, x):
        return x in self.trips

    def __getitem__(self, at):
        return self.trips[at]

    def __add__(self, other):
        if not isinstance(other, Tour):
            raise BadTour("other")
        trips = self.trips + other.trips
        return Tour(*trips)

    def __or__(self, other):
        if not isinstance(other, Tour):
            raise BadTour("other")
        trips = taken_in_turn(self.trips, other.trips)
        return Tour(*trips)

    def __mul__(self, other):
        if not is_integer(other) or other < 1:
            raise BadTour("other")
        # Seven times two trips are too many already: no row as long as any integer is built.
        trips = self.trips * min(7, other)
        return Tour(*trips)

    def __rmul__(self, other):
        return self * other

    def __invert__(self):
        trips = [~trip for trip in self.trips[::-1]]
        return Tour(*trips)

    def __rshift__(self, other):
        if not is_integer(other):
            raise BadTour("other")
        first = other % len(self.trips)
        trips = self.trips[first:] + self.trips[:first]
        return Tour(*trips)

    def renamed(self, names):
        """The tour with other names for its yards."""
        if not are_names_for(self.yards, names):
            raise BadTour("names")
        trips = [Trip(names[trip.start], names[trip.goal], trip.price) for trip in self.trips]
        return Tour(*trips)

    def priced(self, prices):
        """The tour with other prices, one for each trip."""
        if not isinstance(prices, (list, tuple)) or len(prices) != len(self.trips):
            raise BadTour("prices")
        if not all([is_price(price) for price in prices]):
            raise BadTour("prices")
        trips = [trip.priced(price) for trip, price in zip(self.trips, prices)]
        return Tour(*trips)

    @staticmethod
    def there_and_back(one, other, price=1, back=1):
        """Two trips, the first one from one to other."""
        return Tour(Trip(one, other, price), Trip(other, one, back))

    @staticmethod
    def around(first=NO_YARD, *yards):
        """A trip from each yard to the next one, from the last one to the first one."""
        # LANGUAGE.md wants a plain parameter ahead of a star, but there may be no yards at all.
        row = () if first == NO_YARD else (first, *yards)
        trips = [Trip(start, goal) for start, goal in zip(row, row[1:] + row[:1])]
        return Tour(*trips)

    def __eq__(self, other):
        return isinstance(other, Tour) and self.trips == other.trips

    def __str__(self):
        return ", ".join([str(trip) for trip in self.trips])

    @classmethod
    def read(cls, text):
        """The tour with just this text."""
        if not isinstance(text, str):
            raise BadText(0, 0)
        words = text.split(" ")
        wrong = wrong_tour_word(words)
        if wrong is not None:
            raise BadText(0, wrong)
        trips = [Trip.read(part) for part in text.split(", ")]
        return cls(*trips)


def yards_of(trips):
    """The ascending tuple of the yards that trips lead from or to."""
    found = {yard: True for trip in trips for yard in (trip.start, trip.goal)}
    return tuple(sorted([str(yard) for yard in found]))


def first_unbalanced(trips, yards):
    """The first yard that is not left as often as it is come to; None if there is none."""
    starts = [trip.start for trip in trips]
    goals = [trip.goal for trip in trips]
    for yard in yards:
        if starts.count(yard) != goals.count(yard):
            return yard
    return None


def taken_in_turn(one, other):
    """The items of two tuples by turns, then the rest of the longer one."""
    shared = min(len(one), len(other))
    turns = [trip for pair in zip(one, other) for trip in pair]
    return tuple(turns) + one[shared:] + other[shared:]


def are_names_for(yards, names):
    """Whether any value is a dict from just these yards to unlike names."""
    if not isinstance(names, dict) or len(names) != len(yards):
        return False
    if not all([yard in names and is_name(names[yard]) for yard in yards]):
        return False
    return len({names[yard] for yard in yards}) == len(yards)


def wrong_tour_word(words):
    """The index of the first word of a tour that cannot stand or is missing; None if all fit."""
    for at in range(len(words)):
        if not can_stand(words, at):
            return at
    if len(words) % 2 == 1:
        return len(words)
    return None


def can_stand(words, at):
    """Whether the word with this index can stand in the text of a tour."""
    word = words[at]
    if at % 2 == 0:
        return at < 2 * MOST_TRIPS and is_way_word(word)
    if at == len(words) - 1:
        return is_price_word(word)
    return word.endswith(",") and is_price_word(word[:-1])
