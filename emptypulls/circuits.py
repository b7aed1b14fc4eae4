"""The dearest ring of a graph.

A graph is a list that has for each of its nodes the list of its steps, one at least. A step is a tuple of its
price, how many tours end with it (0 or 1), and the node behind it; in each ring a tour ends. A choice is a list
that has for each node the number of one of its steps, or None. A ring is a list of pairs of a node and the number
of the step that is gone from it.
"""

from emptypulls.rates import Rate


def dearest_ring(graph):
    """The greatest price of a tour in a ring on average, a ring that has it, and heights.

    For each step its weight at this rate and the height behind it are at most the height ahead of it.
    """
    ring = ring_of(graph, [0] * len(graph))
    rate = mean_of(graph, ring)
    heights, dearer = lifted(graph, rate)
    while dearer is not None:
        ring = dearer
        rate = mean_of(graph, ring)
        heights, dearer = lifted(graph, rate)
    return rate, ring, heights


def mean_of(graph, ring):
    """What a tour costs on average in a ring."""
    steps = [graph[node][number] for node, number in ring]
    return Rate(sum([price for price, _, _ in steps]), sum([ends for _, ends, _ in steps]))


def weighed(steps, rate):
    """The pairs of a weight and the node behind, for steps at a rate."""
    top = rate.top
    bottom = rate.bottom
    return [(bottom * price - top * ends, behind) for price, ends, behind in steps]


def lifted(graph, rate):
    """Heights that no step lifts, and None; or heights that grow for ever, and a ring that is dearer than the rate."""
    weights = [weighed(steps, rate) for steps in graph]
    heights = [0] * len(graph)
    choice = [None] * len(graph)
    ring = None
    while ring is None and is_lifted(weights, heights, choice):
        # Each height is at most what its chosen step weighs and the height behind it now: so the chosen steps of
        # a ring weigh more than 0 together, as the one that closed it lifted a height.
        ring = ring_of(graph, choice)
    return heights, ring


def is_lifted(weights, heights, choice):
    """Lifts heights to what a step and the height behind it weigh; whether one was lifted."""
    changed = False
    for node in reversed(range(len(weights))):
        for number, (weight, behind) in enumerate(weights[node]):
            if weight + heights[behind] > heights[node]:
                heights[node] = weight + heights[behind]
                choice[node] = number
                changed = True
    return changed


def ring_of(graph, choice):
    """A ring of chosen steps; None if there is none."""
    seen = [None] * len(graph)
    for first in range(len(graph)):
        node = first
        while seen[node] is None and choice[node] is not None:
            seen[node] = first
            node = behind_choice(graph, choice, node)
        if choice[node] is not None and seen[node] == first:
            return ring_through(graph, choice, node)
    return None


def ring_through(graph, choice, first):
    """The ring of chosen steps through a node."""
    ring = [(first, choice[first])]
    node = behind_choice(graph, choice, first)
    while node != first:
        ring.append((node, choice[node]))
        node = behind_choice(graph, choice, node)
    return ring


def behind_choice(graph, choice, node):
    """The node behind the chosen step of a node."""
    return graph[node][choice[node]][2]
