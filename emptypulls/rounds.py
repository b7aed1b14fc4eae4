"""The cheapest ring through layers that are gone through for ever.

There is a layer for each trip of a known row: a dict from each place to the list of its steps. A step is a
tuple of its word, its price or weight, and the place behind it in the next layer; behind the last layer the
first one comes again. A round goes through all layers once. Each place has a step that keeps it.
"""

from emptypulls.rates import Rate


def least_mean(layers):
    """The least price of a round on average that a ring has."""
    # Karp: of all walks of so many rounds as there are places, the cheapest ones show a cheapest ring.
    rows = [{place: 0 for place in layers[0]}]
    for _ in layers[0]:
        rows.append(sums_behind_round(layers, rows[-1]))
    least = None
    for place in layers[0]:
        mean = greatest_mean(rows, place)
        if least is None or mean < least:
            least = mean
    return least


def sums_behind_round(layers, sums):
    """For each place the least sum of a walk to it, from the least sums a round ago."""
    now = sums
    for layer in layers:
        now = sums_behind(layer, now)
    return now


def sums_behind(layer, sums):
    """For each place behind a layer the least sum of a walk to it, from those ahead of the layer."""
    found = {}
    for place in layer:
        for _, price, behind in layer[place]:
            whole = sums[place] + price
            if behind not in found or whole < found[behind]:
                found[behind] = whole
    return found


def greatest_mean(rows, place):
    """The greatest mean, over the beginnings of the rows, of what the rest of them adds at a place."""
    last = len(rows) - 1
    greatest = Rate(rows[last][place] - rows[0][place], last)
    for at in range(1, last):
        mean = Rate(rows[last][place] - rows[at][place], last - at)
        if mean > greatest:
            greatest = mean
    return greatest


def weighed(layers, rate, trips):
    """The layers with weights instead of prices, at a rate for a tour of so many trips."""
    return [weighed_layer(layer, rate.bottom, rate.top if (index + 1) % trips == 0 else 0)
            for index, layer in enumerate(layers)]


def weighed_layer(layer, factor, less):
    """A layer with each price times a factor, less a number."""
    return {place: [(word, factor * price - less, behind) for word, price, behind in layer[place]]
            for place in layer}


def heights_of(layers):
    """For each index and place the least weight of a walk from there; no ring may weigh less than 0."""
    heights = {(index, place): 0 for index, layer in enumerate(layers) for place in layer}
    while is_lowered(layers, heights):
        pass
    return heights


def is_lowered(layers, heights):
    """Lowers heights to what a step and the height behind it weigh; whether one was lowered."""
    lowered = False
    for index in reversed(range(len(layers))):
        behind_index = (index + 1) % len(layers)
        for place in layers[index]:
            for _, weight, behind in layers[index][place]:
                low = weight + heights[behind_index, behind]
                if low < heights[index, place]:
                    heights[index, place] = low
                    lowered = True
    return lowered


def free_ring(layers, heights):
    """The place and the words of a ring from the first layer, of steps that weigh just what the heights tell."""
    steps = endless(free_steps(layers, heights))
    place = [first for first in layers[0] if (0, first) in steps][0]
    begun = {}
    words = []
    while place not in begun:
        begun[place] = len(words)
        standing = (0, place)
        for _ in layers:
            word, standing = steps[standing][0]
            words.append(word)
        place = standing[1]
    return place, tuple(words[begun[place]:])


def free_steps(layers, heights):
    """For each index and place the words and the standings behind of the steps on which nothing is lost."""
    free = {}
    for index, layer in enumerate(layers):
        behind_index = (index + 1) % len(layers)
        for place in layer:
            free[index, place] = [(word, (behind_index, behind)) for word, weight, behind in layer[place]
                                  if weight + heights[behind_index, behind] == heights[index, place]]
    return free


def endless(steps):
    """The standings from which such steps can be gone for ever, each with those of its steps that lead to such."""
    kept = lasting(steps)
    many = len(steps)
    while len(kept) < many:
        many = len(kept)
        kept = lasting(kept)
    return kept


def lasting(steps):
    """The standings that have a step to one of them, each with just these steps."""
    kept = {}
    for standing in steps:
        going = [step for step in steps[standing] if step[1] in steps]
        if len(going) > 0:
            kept[standing] = going
    return kept
