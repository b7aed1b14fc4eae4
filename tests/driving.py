"""A second, plain way through the states of rules and the standings of spares, for the tests."""

import random
from collections import deque
from fractions import Fraction
from itertools import product
from zlib import crc32

from emptypulls.rules import Always, By, Either, Fullest, Guarded, Levels, Moment, Never, Not
from reference import all_places, indexes, moved, need_at, stand_at


def left(way, place):
    """The place behind a leaving; None if it is not fair."""
    start, goal = way
    if place[goal] == 0:
        return None
    changed = list(place)
    changed[start] += 1
    changed[goal] -= 1
    return tuple(changed)


def duel_steps(tour, standing):
    """The step of a load, and those of a pull and of a fair leaving: what is paid, whether a tour ends, and behind."""
    index, place = standing
    behind, ends = (index + 1) % len(tour), index == len(tour) - 1
    went = left(indexes(tour)[index], place)
    unloaded = [(tour[index].price, ends, (behind, place))]
    if went is not None:
        unloaded.append((0, ends, (behind, went)))
    return (0, ends, (behind, place)), unloaded


def all_standings(tour, number):
    return [(index, place) for index in range(len(tour)) for place in all_places(len(tour.yards), number)]


def first_state(tour, stand):
    numbers = tuple(stand[yard] for yard in tour.yards)
    return 0, numbers, numbers


def rule_step(tour, rule, state, load):
    """What is paid, whether a tour ends, the state behind, and the word; None if the load is left standing."""
    index, begun, now = state
    trip, behind = tour[index], moved(indexes(tour)[index], now)
    if load:
        word, paid = "load", 0
        if behind is None:
            return None
    elif rule(Moment(tour, index, stand_at(tour, begun), stand_at(tour, now))) and behind is not None:
        word, paid = "pull", trip.price
    else:
        word, paid, behind = "leave", 0, now
    ends = index == len(tour) - 1
    return paid, ends, (0, behind, behind) if ends else (index + 1, begun, behind), word


def reached(first, steps):
    """All that can be come to, in any order; steps gives a list of what stands behind."""
    found, queue = {first}, deque([first])
    while queue:
        for behind in steps(queue.popleft()):
            if behind not in found:
                found.add(behind)
                queue.append(behind)
    return found


def rule_states(tour, rule, stand):
    def steps(state):
        told = [rule_step(tour, rule, state, load) for load in (False, True)]
        return [step[2] for step in told if step is not None]
    return reached(first_state(tour, stand), steps)


def dearest_mean(edges, first):
    """The greatest mean, for a tour, of all rings that can be come to; edges gives (paid, ends, behind) of a node.

    Karp over whole tours: the greatest sums of rows of so many tours, from the first node on.
    """
    nodes = reached(first, lambda node: [edge[2] for edge in edges(node)])
    begun = [node for node in nodes if node[0] == 0]
    many = len(begun)
    rows = [{first: 0}]
    for _ in range(many):
        rows.append(tour_further(edges, rows[-1]))
    means = []
    for node in begun:
        if node in rows[many]:
            means.append(min(Fraction(rows[many][node] - rows[at][node], many - at)
                             for at in range(many) if node in rows[at]))
    return max(means)


def tour_further(edges, sums):
    now, done = dict(sums), {}
    while now:
        found = {}
        for node, paid in now.items():
            for cost, ends, behind in edges(node):
                into = done if ends else found
                into[behind] = max(into.get(behind, paid + cost), paid + cost)
        now = found
    return done


def price_by_all_choices(tour, number, standing):
    """The least, over all that a puller can fix for each standing, of what the dearest loads cost him from one."""
    standings = all_standings(tour, number)
    free = [one for one in standings if len(duel_steps(tour, one)[1]) == 2]
    means = []
    for choice in product((0, 1), repeat=len(free)):
        chosen = dict(zip(free, choice))
        means.append(dearest_mean(lambda one: [duel_steps(tour, one)[0], duel_steps(tour, one)[1][chosen.get(one, 0)]],
                                  standing))
    return min(means)


def count_of_choices(tour, number):
    return sum(len(duel_steps(tour, one)[1]) == 2 for one in all_standings(tour, number))


def mixed(text):
    """A number below a hundred that is the same one for the same text."""
    return crc32(text.encode()) // 7 % 100


def some_rules(tour, seed):
    """Rules of all kinds for a tour, the same ones for the same seed."""
    chance = random.Random(seed)

    def by():
        odds, salt = chance.choice([0, 20, 50, 80, 100]), chance.random()
        return By(lambda moment: mixed(f"{salt} {moment.index} {moment.begun} {moment.now}") < odds)

    levels = Levels({yard: chance.randint(0, 2) for yard in tour.yards})
    return [Always(), Never(), Fullest(), levels, by(), Guarded(Never()), Guarded(Fullest()), Guarded(by()),
            Guarded(levels), levels & by(), Either(Never(), by()), Not(levels), Guarded(~levels)]


def safe_stand(tour, place):
    return stand_at(tour, [x + y for x, y in zip(need_at(tour), place)])
