"""Stands: how many trailers each yard has, and how many a tour needs there."""

from emptypulls.arguments import check_number, check_tour
from emptypulls.digits import is_number_word, number_text
from emptypulls.errors import BadName, BadStand, BadText, NoTrailer, NoYard, Unsafe
from emptypulls.kinds import is_integer, is_name
from emptypulls.needs import are_enough, loads_until_missing, needs_at
from emptypulls.places import parted

MOST_DIGITS = 60


class Stand:
    """How many trailers each yard has."""

    def __init__(self, numbers):
        if not are_numbers(numbers):
            raise BadStand("numbers")
        self._yards = tuple(sorted([str(yard) for yard in numbers if numbers[yard] > 0]))
        self._numbers = {yard: numbers[yard] for yard in self._yards}

    @property
    def whole(self):
        return sum([self._numbers[yard] for yard in self._yards])

    def __getitem__(self, at):
        if not is_name(at):
            raise BadName(at)
        return self._numbers.get(at, 0)

    def by(self, yards):
        """A dict from these yards to the numbers of trailers there."""
        return {yard: self._numbers.get(yard, 0) for yard in yards}

    def __contains__(self, x):
        return x in self._yards

    def __len__(self):
        return len(self._yards)

    def __iter__(self):
        return iter(self._yards)

    def __bool__(self):
        return bool(len(self._yards) > 0)

    def __add__(self, other):
        if not isinstance(other, Stand):
            raise BadStand("other")
        numbers = dict(self._numbers)
        for yard in other._yards:
            numbers[yard] = numbers.get(yard, 0) + other._numbers[yard]
        return Stand(numbers)

    def __sub__(self, other):
        if not isinstance(other, Stand) or not other <= self:
            raise BadStand("other")
        numbers = dict(self._numbers)
        for yard in other._yards:
            numbers[yard] = numbers[yard] - other._numbers[yard]
        return Stand(numbers)

    def __le__(self, other):
        if not isinstance(other, Stand):
            raise BadStand("other")
        return are_enough(other.by(self._yards), self._numbers)

    def moved(self, start, goal):
        """The stand with one trailer moved from start to goal."""
        if not is_name(start):
            raise BadName(start)
        if not is_name(goal):
            raise BadName(goal)
        if start not in self._numbers:
            raise NoTrailer(start)
        numbers = dict(self._numbers)
        numbers[start] = numbers[start] - 1
        numbers[goal] = numbers.get(goal, 0) + 1
        return Stand(numbers)

    def __eq__(self, other):
        return isinstance(other, Stand) and self._numbers == other._numbers

    def __str__(self):
        if len(self._yards) == 0:
            return "-"
        return ", ".join([f"{yard} {number_text(self._numbers[yard])}" for yard in self._yards])

    @classmethod
    def read(cls, text):
        """The stand with just this text."""
        if not isinstance(text, str):
            raise BadText(0, 0)
        words = text.split(" ")
        wrong = wrong_stand_word(words)
        if wrong is not None:
            raise BadText(0, wrong)
        numbers = [int(word.removesuffix(",")) for word in words[1::2]]
        return cls({yard: number for yard, number in zip(words[::2], numbers)})


def are_numbers(value):
    """Whether any value is a dict from names to integers from 0 on."""
    if not isinstance(value, dict):
        return False
    return all([is_name(yard) and is_integer(value[yard]) and value[yard] >= 0 for yard in value])


def wrong_stand_word(words):
    """The index of the first word of a stand that cannot stand or is missing; None if all fit."""
    if words[0] == "-":
        return 1 if len(words) > 1 else None
    for at in range(len(words)):
        if not can_stand(words, at):
            return at
    if len(words) % 2 == 1:
        return len(words)
    return None


def can_stand(words, at):
    """Whether the word with this index can stand in the text of a stand, behind words that can."""
    word = words[at]
    if at % 2 == 0:
        return is_name(word) and (at == 0 or words[at - 2] < word)
    if at == len(words) - 1:
        return is_many_word(word)
    return word.endswith(",") and is_many_word(word[:-1])


def is_many_word(word):
    """Whether a word is a number of trailers from 1 on."""
    return word != "0" and is_number_word(word, MOST_DIGITS)


def check_stand(tour, stand):
    """Any value as a stand for a tour."""
    if not isinstance(stand, Stand):
        raise BadStand("stand")
    for yard in stand:
        if yard not in tour.yards:
            raise NoYard(yard)


def need(tour):
    """What each yard needs, so that no load need ever be left standing."""
    check_tour(tour, "tour")
    return Stand(needs_at(tour, 0))


def is_safe(tour, stand):
    """Whether each yard has at least its need."""
    check_tour(tour, "tour")
    check_stand(tour, stand)
    return is_safe_at(tour, 0, stand)


def is_safe_at(tour, index, stand):
    """Whether each yard of the tour has at least its need ahead of the trip of this index."""
    return are_enough(stand.by(tour.yards), needs_at(tour, index))


def spares(tour, stand):
    """What a safe stand has above the need."""
    check_tour(tour, "tour")
    check_stand(tour, stand)
    return spares_at(tour, 0, stand)


def spares_at(tour, index, stand):
    """What the stand has above the need ahead of the trip of this index."""
    needs = needs_at(tour, index)
    numbers = stand.by(tour.yards)
    if not are_enough(numbers, needs):
        raise Unsafe(stranding_at(tour, index, stand))
    return Stand({yard: numbers[yard] - needs[yard] for yard in needs})


def stranding(tour, stand):
    """The shortest row of loads of which one is left standing whatever a puller does; None if there is none."""
    check_tour(tour, "tour")
    check_stand(tour, stand)
    return stranding_at(tour, 0, stand)


def stranding_at(tour, index, stand):
    """The shortest such row from the trip of this index on."""
    many = loads_until_missing(tour, index, stand.by(tour.yards))
    if many is None:
        return None
    return (True,) * many


def placings(tour, number):
    """All stands of so many trailers on yards of the tour, ordered by their places."""
    check_tour(tour, "tour")
    check_number(number)
    many = len(tour.yards)
    for place in parted(number, many):
        yield Stand({yard: part for yard, part in zip(tour.yards, place)})


def place_of(tour, stand):
    """The numbers of trailers by the yards of the tour."""
    check_tour(tour, "tour")
    check_stand(tour, stand)
    numbers = stand.by(tour.yards)
    return tuple([numbers[yard] for yard in tour.yards])
