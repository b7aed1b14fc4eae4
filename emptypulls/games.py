"""What the pulls cost at least, on average for ever, whatever loads come."""

from emptypulls.arguments import check_number, check_tour
from emptypulls.duels import Duel, least_of
from emptypulls.kinds import Twinned, are_same, copied
from emptypulls.orders import greatest_rising
from emptypulls.places import check_places
from emptypulls.stands import place_of, spares


class Pulling(Twinned):
    """A paper: heights by which a puller pays at most a rate from its standings."""

    def __init__(self, rate, heights):
        self.rate = copied(rate)
        self.heights = copied(heights)

    def twin(self):
        """An equal paper with lists and dicts of its own."""
        return Pulling(self.rate, self.heights)

    def __eq__(self, other):
        return (isinstance(other, Pulling) and are_same(self.rate, other.rate)
                and are_same(self.heights, other.heights))


class Pressing(Twinned):
    """A paper: heights by which loads can make each puller pay at least a rate from its standings."""

    def __init__(self, rate, heights):
        self.rate = copied(rate)
        self.heights = copied(heights)

    def twin(self):
        """An equal paper with lists and dicts of its own."""
        return Pressing(self.rate, self.heights)

    def __eq__(self, other):
        return (isinstance(other, Pressing) and are_same(self.rate, other.rate)
                and are_same(self.heights, other.heights))


class Priced(Twinned):
    """A paper: the price of a stand, with what shows that it is not less and not more."""

    def __init__(self, rate, pulling, pressing):
        self.rate = copied(rate)
        self.pulling = copied(pulling)
        self.pressing = copied(pressing)

    def twin(self):
        """An equal paper with lists and dicts of its own."""
        return Priced(self.rate, self.pulling, self.pressing)

    def __eq__(self, other):
        return (isinstance(other, Priced) and are_same(self.rate, other.rate)
                and are_same(self.pulling, other.pulling) and are_same(self.pressing, other.pressing))


class Least(Twinned):
    """A paper: the least price for a number of spares, the first place that has it, and what shows both."""

    def __init__(self, rate, start, pulling, pressing):
        self.rate = copied(rate)
        self.start = copied(start)
        self.pulling = copied(pulling)
        self.pressing = copied(pressing)

    def twin(self):
        """An equal paper with lists and dicts of its own."""
        return Least(self.rate, self.start, self.pulling, self.pressing)

    def __eq__(self, other):
        return (isinstance(other, Least) and are_same(self.rate, other.rate) and are_same(self.start, other.start)
                and are_same(self.pulling, other.pulling) and are_same(self.pressing, other.pressing))


def price_from(tour, stand):
    """The least that a puller pays from a safe stand."""
    spare = spares(tour, stand)
    check_places(len(tour), tour, spare.whole)
    duel = Duel(tour, spare.whole)
    start = duel.numbers[0, place_of(tour, spare)]
    rate, _, pulling, pressing = least_of(duel, [start])
    return Priced(rate, Pulling(rate, duel.heights_of(pulling)), Pressing(rate, duel.heights_of(pressing)))


def least_price(tour, number):
    """The least price of all stands with so many spares."""
    check_tour(tour, "tour")
    check_number(number)
    check_places(len(tour), tour, number)
    duel = Duel(tour, number)
    rate, start, pulling, pressing = least_of(duel, duel.starts)
    _, place = duel.standings[start]
    return Least(rate, place, Pulling(rate, duel.heights_of(pulling)), Pressing(rate, duel.heights_of(pressing)))


def enough(tour, most):
    """The least number of spares up to this one whose least price is the greatest rising sum; None if none is."""
    check_tour(tour, "tour")
    check_number(most)
    bound = greatest_rising(tour).number
    for number in range(most + 1):
        if least_price(tour, number).rate == bound:
            return number
    return None
