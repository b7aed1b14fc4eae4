"""Level lots of trips: each yard is the start of as many trips of the lot as it is the goal of.

Whether a trip is chosen for the lot is told by a list of truths, in the order of the trips. To exchange a trip
leads from its start to its goal and gains its price if it is not chosen yet, and back the other way otherwise.
"""


def greatest_lot(trips):
    """For each trip whether it is in a level lot with the greatest sum."""
    chosen = []
    for at, trip in enumerate(trips):
        # The lot is greatest among the trips so far. So one more trip can bring one exchange only: a ring
        # through this trip, of which the rest is the best way back.
        ways = best_ways(trips, chosen, trip.goal)
        chosen.append(False)
        if trip.start in ways and ways[trip.start][0] + trip.price > 0:
            for exchanged in (*ways[trip.start][1], at):
                chosen[exchanged] = not chosen[exchanged]
    return chosen


def exchange(trip, is_chosen):
    """From where to where an exchange of a trip leads, and what it gains."""
    if is_chosen:
        return trip.goal, trip.start, -trip.price
    return trip.start, trip.goal, trip.price


def best_ways(trips, chosen, yard):
    """For each yard that exchanges lead to from a yard: the greatest gain, and the indexes of its trips."""
    ways = {yard: (0, ())}
    lengthened = True
    while lengthened:
        lengthened = False
        for at, is_chosen in enumerate(chosen):
            start, goal, price = exchange(trips[at], is_chosen)
            if start in ways:
                gain, way = ways[start]
                if goal not in ways or gain + price > ways[goal][0]:
                    ways[goal] = (gain + price, (*way, at))
                    lengthened = True
    return ways


def lot_heights(yards, trips, chosen):
    """For each yard the greatest gain of a way to it; no ring may gain anything."""
    heights = {yard: 0 for yard in yards}
    raised = True
    while raised:
        raised = False
        for trip, is_chosen in zip(trips, chosen):
            start, goal, price = exchange(trip, is_chosen)
            if heights[start] + price > heights[goal]:
                heights[goal] = heights[start] + price
                raised = True
    return heights
