"""Rules that tell for each unloaded trip whether to pull, and what comes of them."""

from emptypulls.arguments import check_tour
from emptypulls.circuits import dearest_ring
from emptypulls.errors import BadLoads, BadRule, LeftStanding, NoTrailer, Strands
from emptypulls.kinds import Twinned, are_same, copied
from emptypulls.needs import needs_at
from emptypulls.stands import Stand, are_numbers, check_stand, place_of
from emptypulls.walks import Walk
from emptypulls.words import LEAVE, LOAD, PULL

MOST_DRIVEN = 400


class Moment(Twinned):
    """A paper: what a rule sees."""

    def __init__(self, tour, index, begun, now):
        self.tour = copied(tour)
        self.index = copied(index)
        self.begun = copied(begun)
        self.now = copied(now)

    def twin(self):
        """An equal paper with lists and dicts of its own."""
        return Moment(self.tour, self.index, self.begun, self.now)

    def __eq__(self, other):
        return (isinstance(other, Moment) and are_same(self.tour, other.tour) and are_same(self.index, other.index)
                and are_same(self.begun, other.begun) and are_same(self.now, other.now))


class Rule:
    """The base of the rules."""

    def __call__(self, moment):
        """Whether to pull."""
        raise NotImplementedError("each class has its own")

    def __and__(self, other):
        return Both(self, other)

    def __or__(self, other):
        return Either(self, other)

    def __invert__(self):
        return Not(self)

    def __eq__(self, other):
        return self is other


class Always(Rule):
    """Pulls at each trip."""

    def __call__(self, moment):
        check_moment(moment)
        return True

    def __eq__(self, other):
        return isinstance(other, Always)


class Never(Rule):
    """Pulls at no trip."""

    def __call__(self, moment):
        check_moment(moment)
        return False

    def __eq__(self, other):
        return isinstance(other, Never)


class Fullest(Rule):
    """Pulls if the trip rises in the order of the yards by their spares at the beginning, the most first."""

    def __call__(self, moment):
        check_moment(moment)
        trip = moment.tour[moment.index]
        needs = needs_at(moment.tour, 0)
        start = moment.begun[trip.start] - needs[trip.start]
        goal = moment.begun[trip.goal] - needs[trip.goal]
        return start > goal or (start == goal and trip.start < trip.goal)

    def __eq__(self, other):
        return isinstance(other, Fullest)


class Levels(Rule):
    """Pulls if the goal has fewer trailers than its level."""

    def __init__(self, levels):
        if not are_numbers(levels):
            raise BadRule("levels")
        self.levels = copied(levels)

    def __call__(self, moment):
        check_moment(moment)
        goal = moment.tour[moment.index].goal
        return moment.now[goal] < self.levels.get(goal, 0)

    def __eq__(self, other):
        return isinstance(other, Levels) and are_same(self.levels, other.levels)


class By(Rule):
    """Pulls if a function says so."""

    def __init__(self, work):
        self.work = work

    def __call__(self, moment):
        check_moment(moment)
        work = self.work
        answer = work(moment)
        if not isinstance(answer, bool):
            raise BadRule("answer")
        return answer

    def __eq__(self, other):
        return isinstance(other, By) and self.work == other.work


class Guarded(Rule):
    """Pulls if a rule does, or if leaving is not fair."""

    def __init__(self, rule):
        check_rule(rule, "rule")
        self.rule = rule

    def __call__(self, moment):
        check_moment(moment)
        return self.rule(moment) or not is_fair(moment)

    def __eq__(self, other):
        return isinstance(other, Guarded) and self.rule == other.rule


class Both(Rule):
    """Pulls if two rules do."""

    def __init__(self, one, other):
        check_rule(one, "one")
        check_rule(other, "other")
        self.one = one
        self.other = other

    def __call__(self, moment):
        check_moment(moment)
        return self.one(moment) and self.other(moment)

    def __eq__(self, other):
        return isinstance(other, Both) and self.one == other.one and self.other == other.other


class Either(Rule):
    """Pulls if one of two rules does."""

    def __init__(self, one, other):
        check_rule(one, "one")
        check_rule(other, "other")
        self.one = one
        self.other = other

    def __call__(self, moment):
        check_moment(moment)
        return self.one(moment) or self.other(moment)

    def __eq__(self, other):
        return isinstance(other, Either) and self.one == other.one and self.other == other.other


class Not(Rule):
    """Pulls if a rule does not."""

    def __init__(self, one):
        check_rule(one, "one")
        self.one = one

    def __call__(self, moment):
        check_moment(moment)
        return not self.one(moment)

    def __eq__(self, other):
        return isinstance(other, Not) and self.one == other.one


class Worst(Twinned):
    """A paper: the greatest price of a rule, a row and a ring of loads that bring it, and heights."""

    def __init__(self, rate, row, ring, heights):
        self.rate = copied(rate)
        self.row = copied(row)
        self.ring = copied(ring)
        self.heights = copied(heights)

    def twin(self):
        """An equal paper with lists and dicts of its own."""
        return Worst(self.rate, self.row, self.ring, self.heights)

    def __eq__(self, other):
        return (isinstance(other, Worst) and are_same(self.rate, other.rate) and are_same(self.row, other.row)
                and are_same(self.ring, other.ring) and are_same(self.heights, other.heights))


def check_moment(value):
    """Any value as what a rule sees."""
    if not isinstance(value, Moment):
        raise BadRule("moment")


def check_rule(value, name):
    """Any value as a rule; name is that of the parameter."""
    if not isinstance(value, Rule):
        raise BadRule(name)


def is_fair(moment):
    """Whether leaving is fair."""
    goal = moment.tour[moment.index].goal
    return moment.now[goal] > needs_at(moment.tour, moment.index)[goal]


def first_state(tour, stand):
    """The state at the beginning of a tour."""
    place = place_of(tour, stand)
    return 0, place, place


def word_at(tour, rule, state, load):
    """The word for the next trip; None if the load is left standing."""
    index, begun, now = state
    is_there = now[tour.yards.index(tour[index].start)] > 0
    if load:
        return LOAD if is_there else None
    says = rule(Moment(tour, index, stand_of(tour, begun), stand_of(tour, now)))
    return PULL if says and is_there else LEAVE


def stand_of(tour, place):
    """The stand with these numbers of trailers by the yards of the tour."""
    return Stand({yard: many for yard, many in zip(tour.yards, place)})


def state_behind(tour, state, word):
    """What is paid for a trip that is driven with this word, and the state behind it."""
    index, begun, now = state
    trip = tour[index]
    numbers = list(now)
    if word != LEAVE:
        start = tour.yards.index(trip.start)
        goal = tour.yards.index(trip.goal)
        numbers[start] = numbers[start] - 1
        numbers[goal] = numbers[goal] + 1
    behind = tuple(numbers)
    paid = trip.price if word == PULL else 0
    if index == len(tour) - 1:
        return paid, (0, behind, behind)
    return paid, (index + 1, begun, behind)


def ruled_step(tour, rule, state, load):
    """What is paid for a trip by a rule, and the state behind it; None if the load is left standing."""
    word = word_at(tour, rule, state, load)
    return None if word is None else state_behind(tour, state, word)


def ruled_walk(tour, rule, stand):
    """All states that can be come to by a rule."""
    return Walk(first_state(tour, stand), lambda state, load: ruled_step(tour, rule, state, load))


def check_strandless(walk):
    """That no load is left standing in a walk."""
    row = walk.row_left_standing()
    if row is not None:
        raise Strands(row)


def check_driven_loads(loads):
    """Any value as a row of loads to be driven."""
    if not isinstance(loads, (list, tuple)) or len(loads) > MOST_DRIVEN:
        raise BadLoads(None)
    for at, load in enumerate(loads):
        if not isinstance(load, bool):
            raise BadLoads(at)


def driven_by(tour, rule, stand, loads):
    """The words of a row of loads that is driven by a rule."""
    check_tour(tour, "tour")
    check_rule(rule, "rule")
    check_stand(tour, stand)
    check_driven_loads(loads)
    state = first_state(tour, stand)
    words = []
    for at, load in enumerate(loads):
        word = word_at(tour, rule, state, load)
        if word is None:
            raise LeftStanding(at) from NoTrailer(tour[state[0]].start)
        _, state = state_behind(tour, state, word)
        words.append(word)
    return tuple(words)


def stranded(tour, rule, stand):
    """The shortest row of loads at the end of which one is left standing by a rule; None if there is none."""
    check_tour(tour, "tour")
    check_rule(rule, "rule")
    check_stand(tour, stand)
    return ruled_walk(tour, rule, stand).row_left_standing()


def worst(tour, rule, stand):
    """The greatest price of all rows of loads that are driven by a rule."""
    check_tour(tour, "tour")
    check_rule(rule, "rule")
    check_stand(tour, stand)
    walk = ruled_walk(tour, rule, stand)
    check_strandless(walk)
    ends = [1 if index == len(tour) - 1 else 0 for index, _, _ in walk.states]
    graph = [[(paid, end, behind) for paid, behind in both] for end, both in zip(ends, walk.onward)]
    rate, ring, heights = dearest_ring(graph)
    beginnings = [at for at, (node, _) in enumerate(ring) if walk.states[node][0] == 0]
    turned = ring[beginnings[0]:] + ring[:beginnings[0]]
    row = walk.row_to(turned[0][0])
    told = {state: height for state, height in zip(walk.states, heights)}
    return Worst(rate, row, tuple([number == 1 for _, number in turned]), told)
