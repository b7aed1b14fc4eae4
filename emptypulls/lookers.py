"""A looker, who tells without a search whether papers of a tour are right."""

from emptypulls.arguments import check_loads, check_number, check_tour
from emptypulls.compare import Cheap, Dearer, compared_step
from emptypulls.games import Least, Pressing, Priced, Pulling
from emptypulls.kinds import are_same, is_integer
from emptypulls.known import Known, Rings, steps_from, tours_of
from emptypulls.orders import Rising, lots_of, rising_sum, sum_into
from emptypulls.places import count_of_places, places_of
from emptypulls.rates import Rate
from emptypulls.rules import Worst, check_rule, first_state, ruled_step
from emptypulls.shapes import are_integers, is_place_of, is_place_with, is_row, is_standing_of, is_state_of
from emptypulls.stands import check_stand, is_safe_at, place_of, spares_at, stranding_at

MOST_WORDS = 1000
MOST_WORST = 4000


class Looker:
    """Looks at papers of a tour."""

    def __init__(self, tour):
        check_tour(tour, "tour")
        self._tour = tour

    def strandings(self, paper, stand):
        """Whether any value is what stranding tells."""
        check_stand(self._tour, stand)
        return are_same(paper, stranding_at(self._tour, 0, stand))

    def risings(self, paper):
        """Whether any value is a right Rising."""
        if not isinstance(paper, Rising) or not is_integer(paper.number) or not is_order(self._tour, paper.order):
            return False
        return rising_sum(self._tour, paper.order) == paper.number and are_marks(self._tour, paper)

    def knowns(self, paper, loads, number):
        """Whether any value is a right Known for a row of loads and a number of spares."""
        check_loads(self._tour, loads)
        check_number(number)
        if not isinstance(paper, Known) or not isinstance(paper.rate, Rate):
            return False
        return are_known_words(self._tour, loads, number, paper) and are_known_heights(self._tour, loads, number, paper)

    def endless(self, paper, loads):
        """Whether any value is a right Rings for a row of loads."""
        check_loads(self._tour, loads)
        if not isinstance(paper, Rings) or not isinstance(paper.rate, Rate):
            return False
        unloaded = [at for at, load in enumerate(loads) if not load]
        trips = {at: self._tour[at % len(self._tour)] for at in unloaded}
        if not is_level_lot(trips, paper.left):
            return False
        gain = sum([trips[at].price for at in paper.left])
        pulled = sum([trips[at].price for at in unloaded]) - gain
        return paper.rate * tours_of(self._tour, loads) == pulled and are_lot_heights(self._tour, trips, gain, paper)

    def prices(self, paper, stand):
        """Whether any value is a right Priced for a stand, which is safe."""
        check_stand(self._tour, stand)
        if not is_safe_at(self._tour, 0, stand) or not isinstance(paper, Priced):
            return False
        spare = spares_at(self._tour, 0, stand)
        if not are_sides(self._tour, spare.whole, paper):
            return False
        first = (0, place_of(self._tour, spare))
        return first in paper.pulling.heights and first in paper.pressing.heights

    def leasts(self, paper, number):
        """Whether any value is a right Least for a number of spares."""
        check_number(number)
        if not isinstance(paper, Least) or not is_place_of(len(self._tour.yards), paper.start):
            return False
        if not are_sides(self._tour, number, paper) or (0, paper.start) not in paper.pulling.heights:
            return False
        return all([(0, place) in paper.pressing.heights for place in places_of(self._tour, number)])

    def worsts(self, paper, rule, stand):
        """Whether any value is a right Worst for a rule from a stand."""
        check_rule(rule, "rule")
        check_stand(self._tour, stand)
        if not isinstance(paper, Worst) or not isinstance(paper.rate, Rate):
            return False
        first = first_state(self._tour, stand)
        return is_worst_ring(self._tour, rule, first, paper) and are_worst_heights(self._tour, rule, first, paper)

    def cheaps(self, paper, one, other, stand):
        """Whether any value is a right Cheap or Dearer for two rules from a stand."""
        check_rule(one, "one")
        check_rule(other, "other")
        check_stand(self._tour, stand)
        first = first_state(self._tour, stand)
        both = (*first, *first[1:])
        if isinstance(paper, Dearer):
            return is_dearer_row(self._tour, one, other, both, paper.loads)
        return isinstance(paper, Cheap) and are_cheap_marks(self._tour, one, other, both, paper.marks)


def is_order(tour, value):
    """Whether any value is an order of the yards, a tuple."""
    if not isinstance(value, tuple) or len(value) != len(tour.yards):
        return False
    return all([yard in value for yard in tour.yards])


def are_marks(tour, paper):
    """Whether the marks show that no order has a greater rising sum than the number of the paper."""
    marks = paper.marks
    lots = lots_of(tour.yards)
    if not are_integers(marks) or len(marks) != len(lots) or not all([lot in marks for lot in lots]):
        return False
    if marks[()] != 0 or marks[tour.yards] != paper.number:
        return False
    return all([marks[with_yard(tour, lot, yard)] >= marks[lot] + sum_into(tour, lot, yard)
                for lot in lots for yard in tour.yards if yard not in lot])


def with_yard(tour, lot, yard):
    """The ascending tuple of the yards of a lot and one more."""
    return tuple([other for other in tour.yards if other == yard or other in lot])


def are_known_words(tour, loads, number, paper):
    """Whether the words of a paper lead from its start back to it and cost its rate."""
    many = len(paper.words) if isinstance(paper.words, tuple) else 0
    if not 1 <= many <= MOST_WORDS or many % len(loads) != 0:
        return False
    if not is_place_with(len(tour.yards), number, paper.start):
        return False
    paid = 0
    place = paper.start
    for at, word in enumerate(paper.words):
        steps = steps_from(tour, tour[at % len(tour)], loads[at % len(loads)], place)
        fitting = [(price, behind) for told, price, behind in steps if told == word]
        if len(fitting) == 0:
            return False
        price, place = fitting[0]
        paid = paid + price
    return place == paper.start and paper.rate * (many // len(tour)) == paid


def are_known_heights(tour, loads, number, paper):
    """Whether the heights of a paper show that no words cost less than its rate."""
    heights = paper.heights
    many = len(tour.yards)
    if not are_integers(heights) or len(heights) != len(loads) * count_of_places(tour, number):
        return False
    if not all([is_standing_of(len(loads), many, number, standing) for standing in heights]):
        return False
    for index, place in heights:
        ahead = (index + 1) % len(loads)
        for _, price, behind in steps_from(tour, tour[index % len(tour)], loads[index], place):
            if heights[index, place] > weight_of(tour, paper.rate, index, price) + heights[ahead, behind]:
                return False
    return True


def weight_of(tour, rate, index, price):
    """The weight of a step of the trip of an index, counted round."""
    is_last = (index + 1) % len(tour) == 0
    return rate.bottom * price - (rate.top if is_last else 0)


def is_level_lot(trips, left):
    """Whether any value is the ascending tuple of indexes of a level lot of these trips."""
    if not isinstance(left, tuple) or not all([is_integer(at) and at in trips for at in left]):
        return False
    if not all([at < behind for at, behind in zip(left, left[1:])]):
        return False
    starts = sorted([str(trips[at].start) for at in left])
    return starts == sorted([str(trips[at].goal) for at in left])


def are_lot_heights(tour, trips, gain, paper):
    """Whether the heights of a paper show that no level lot of these trips has a greater sum."""
    heights = paper.heights
    if not are_integers(heights) or len(heights) != len(tour.yards):
        return False
    if not all([yard in heights for yard in tour.yards]):
        return False
    above = [trips[at].price + heights[trips[at].start] - heights[trips[at].goal] for at in trips]
    return sum([part for part in above if part > 0]) == gain


def are_sides(tour, number, paper):
    """Whether the Pulling and the Pressing of a paper are right, with its rate and for this number of spares."""
    rate = paper.rate
    pulling = paper.pulling
    pressing = paper.pressing
    if not isinstance(rate, Rate) or not isinstance(pulling, Pulling) or not isinstance(pressing, Pressing):
        return False
    if not all([are_side_heights(tour, number, rate, side) for side in (pulling, pressing)]):
        return False
    return is_pulling(tour, rate, pulling.heights) and is_pressing(tour, rate, pressing.heights)


def are_side_heights(tour, number, rate, side):
    """Whether a Pulling or a Pressing has this rate and heights for standings of this number of spares alone."""
    if not isinstance(side.rate, Rate) or side.rate != rate or not are_integers(side.heights):
        return False
    many = len(tour.yards)
    return all([is_standing_of(len(tour), many, number, standing) for standing in side.heights])


def is_pulling(tour, rate, heights):
    """Whether a puller need not come above these heights."""
    for standing in heights:
        loaded = leads_behind(tour, rate, heights, standing, True)
        unloaded = leads_behind(tour, rate, heights, standing, False)
        if not all([lead is not None and lead <= 0 for lead in loaded]):
            return False
        if not any([lead is not None and lead <= 0 for lead in unloaded]):
            return False
    return True


def is_pressing(tour, rate, heights):
    """Whether loads can see to it that a puller does not come below these heights."""
    for standing in heights:
        loaded = leads_behind(tour, rate, heights, standing, True)
        unloaded = leads_behind(tour, rate, heights, standing, False)
        if not all([lead is not None and lead >= 0 for lead in loaded]):
            if not all([lead is not None and lead >= 0 for lead in unloaded]):
                return False
    return True


def leads_behind(tour, rate, heights, standing, load):
    """For each step how much its weight and the height behind are above the height here; None if none is told."""
    index, place = standing
    ahead = (index + 1) % len(tour)
    leads = []
    for _, price, behind in steps_from(tour, tour[index], load, place):
        if (ahead, behind) in heights:
            leads.append(weight_of(tour, rate, index, price) + heights[ahead, behind] - heights[standing])
        else:
            leads.append(None)
    return leads


def is_worst_ring(tour, rule, first, paper):
    """Whether the row of a paper leads to its ring, which leads back there and costs its rate."""
    if not is_row(paper.row) or not is_row(paper.ring) or len(paper.ring) == 0:
        return False
    if max(len(paper.row), len(paper.ring)) > MOST_WORST:
        return False
    if len(paper.row) % len(tour) != 0 or len(paper.ring) % len(tour) != 0:
        return False
    _, begun = driven_row(tour, rule, first, paper.row)
    if begun is None:
        return False
    paid, behind = driven_row(tour, rule, begun, paper.ring)
    return behind == begun and paper.rate * (len(paper.ring) // len(tour)) == paid


def driven_row(tour, rule, first, loads):
    """What is paid for a row of loads from a state, and the state behind; None if a load is left standing."""
    paid = 0
    state = first
    for load in loads:
        told = ruled_step(tour, rule, state, load)
        if told is None:
            return paid, None
        price, state = told
        paid = paid + price
    return paid, state


def are_worst_heights(tour, rule, first, paper):
    """Whether the heights of a paper show that no row of loads costs more than its rate."""
    heights = paper.heights
    if not are_integers(heights) or first not in heights:
        return False
    many = len(tour.yards)
    if not all([is_state_of(len(tour), many, state) and len(state) == 3 for state in heights]):
        return False
    for state in heights:
        for load in (False, True):
            told = ruled_step(tour, rule, state, load)
            if told is None or told[1] not in heights:
                return False
            if weight_of(tour, paper.rate, state[0], told[0]) + heights[told[1]] > heights[state]:
                return False
    return True


def is_dearer_row(tour, one, other, first, loads):
    """Whether any value is a row of loads behind which one has paid more than other."""
    if not is_row(loads):
        return False
    lead = 0
    state = first
    for load in loads:
        told = compared_step(tour, one, other, state, load)
        if told is None:
            return False
        more, state = told
        lead = lead + more
    return lead > 0


def are_cheap_marks(tour, one, other, first, marks):
    """Whether any value is marks that show that one has never paid more than other."""
    if not are_integers(marks) or marks.get(first, 1) != 0:
        return False
    many = len(tour.yards)
    if not all([is_state_of(len(tour), many, state) and len(state) == 5 for state in marks]):
        return False
    if not all([marks[state] <= 0 for state in marks]):
        return False
    for state in marks:
        for load in (False, True):
            told = compared_step(tour, one, other, state, load)
            if told is None or told[1] not in marks or marks[told[1]] < marks[state] + told[0]:
                return False
    return True
