"""A puller against a presser, who chooses the loads: what each of them can see to from the standings.

Standings are numbered by their indexes, then by their places. A plan is a list that tells for each standing what
the presser does there: he sends a load, he sends none, or he gives up.
"""

from emptypulls.circuits import dearest_ring, weighed
from emptypulls.orders import greatest_rising, loads_of
from emptypulls.places import place_behind_leaving, places_of

UNLOADED = 0
LOADED = 1
GIVEN_UP = 2


class Duel:
    """The standings of a tour for a number of spares, and the steps that can be gone from them."""

    def __init__(self, tour, number):
        self.tour = tour
        places = places_of(tour, number)
        self.standings = [(index, place) for index in range(len(tour)) for place in places]
        self.numbers = {standing: at for at, standing in enumerate(self.standings)}
        self.starts = list(range(len(places)))
        # Of each standing the steps without a load, of which the puller chooses, then the one with a load.
        self.steps = [self._steps_from(index, place) for index, place in self.standings]

    def _steps_from(self, index, place):
        trip = self.tour[index]
        ahead = (index + 1) % len(self.tour)
        ends = 1 if ahead == 0 else 0
        same = self.numbers[ahead, place]
        unloaded = [(trip.price, ends, same)]
        left = place_behind_leaving(self.tour, trip, place)
        if left is not None:
            unloaded.append((0, ends, self.numbers[ahead, left]))
        return [unloaded, [(0, ends, same)]]

    def heights_of(self, heights):
        """The dict from the standings to those of these heights, by their numbers, that are not None."""
        return {standing: height for standing, height in zip(self.standings, heights) if height is not None}


def least_of(duel, starts):
    """What a puller pays at least from the best one of some starts, the first such start, and two lists of heights.

    The first heights show that he need not pay more from there, the second ones that he pays as much from each
    start. Where they tell nothing, None stands.
    """
    plan = plan_of_order(duel)
    rate, pressing = least_against(duel, plan, starts)
    pulling, plan = best_plan(duel, rate)
    # As long as the presser need not give up anywhere, the new plan makes each puller pay more than this rate.
    while all([pulling[start] is None for start in starts]):
        rate, pressing = least_against(duel, plan, starts)
        pulling, plan = best_plan(duel, rate)
    held = [start for start in starts if pulling[start] is not None]
    return rate, held[0], pulling, pressing


def plan_of_order(duel):
    """A plan that makes each puller pay the greatest rising sum: loads on just the trips that do not rise."""
    loads = loads_of(duel.tour, greatest_rising(duel.tour).order)
    return [LOADED if loads[index] else UNLOADED for index, _ in duel.standings]


def least_against(duel, plan, starts):
    """The least that is paid against a plan that does not give up from any of some starts, and heights for it."""
    nodes = standings_met(duel, plan, starts)
    numbers = {standing: node for node, standing in enumerate(nodes)}
    # The cheapest ring is the dearest one of what is saved.
    graph = [[(-price, ends, numbers[behind]) for price, ends, behind in duel.steps[standing][plan[standing]]]
             for standing in nodes]
    saved, _, heights = dearest_ring(graph)
    pressing = [None] * len(plan)
    for standing, height in zip(nodes, heights):
        pressing[standing] = -height
    return -saved, pressing


def standings_met(duel, plan, starts):
    """The standings that can be come to from some starts against a plan."""
    met = {start: True for start in starts}
    nodes = list(starts)
    at = 0
    while at < len(nodes):
        standing = nodes[at]
        steps = duel.steps[standing][plan[standing]]
        for _, _, behind in steps:
            if behind not in met:
                met[behind] = True
                nodes.append(behind)
        at = at + 1
    return nodes


def best_plan(duel, rate):
    """The greatest least sums of weights that a plan brings until it gives up, and such a plan.

    The sum is None where the presser never gives up, since each puller then pays more and more above the rate.
    """
    weights = [[weighed(steps, rate) for steps in both] for both in duel.steps]
    plan = [GIVEN_UP] * len(weights)
    sums = sums_against(weights, plan)
    while is_bettered(weights, plan, sums):
        sums = sums_against(weights, plan)
    return sums, plan


def sums_against(weights, plan):
    """For each standing the least sum of weights until the presser gives up; None if he never does."""
    sums = [0 if choice == GIVEN_UP else None for choice in plan]
    while is_lowered(weights, plan, sums):
        pass
    return sums


def is_lowered(weights, plan, sums):
    """Lowers sums to what the puller can come to by one step more; whether one was lowered."""
    lowered = False
    for standing in reversed(range(len(plan))):
        if plan[standing] != GIVEN_UP:
            least = least_sum(weights[standing][plan[standing]], sums)
            if is_above(sums[standing], least):
                sums[standing] = least
                lowered = True
    return lowered


def is_bettered(weights, plan, sums):
    """Makes each choice of a plan the one that brings most; whether one was changed."""
    bettered = False
    for standing, both in enumerate(weights):
        most = sums[standing]
        for choice in (UNLOADED, LOADED):
            least = least_sum(both[choice], sums)
            # Only what brings more is taken: then no ring of the plan weighs 0 or less, and all sums are right.
            if is_above(least, most):
                most = least
                plan[standing] = choice
                bettered = True
    return bettered


def least_sum(steps, sums):
    """The least sum that one of these steps comes to; None if none comes to an end."""
    least = None
    for weight, behind in steps:
        if sums[behind] is not None and is_above(least, weight + sums[behind]):
            least = weight + sums[behind]
    return least


def is_above(one, other):
    """Whether a sum is above another one, None being above all numbers."""
    return other is not None and (one is None or one > other)
