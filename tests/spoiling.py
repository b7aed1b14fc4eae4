"""Papers with one part exchanged, for the tests of lookers."""

from checks import any_values
from emptypulls.rates import Rate
from emptypulls.rules import Worst
from emptypulls.compare import Cheap, Dearer
from emptypulls.games import Least, Pressing, Priced, Pulling
from emptypulls.known import Known, Rings
from emptypulls.orders import Rising

NAMES = {Rising: ("number", "order", "marks"), Known: ("rate", "start", "words", "heights"),
         Rings: ("rate", "left", "heights"), Pulling: ("rate", "heights"), Pressing: ("rate", "heights"),
         Priced: ("rate", "pulling", "pressing"), Least: ("rate", "start", "pulling", "pressing"),
         Worst: ("rate", "row", "ring", "heights"), Cheap: ("marks",), Dearer: ("loads",)}
BIG = 10 ** 59


def parts_of(paper):
    return [getattr(paper, name) for name in NAMES[type(paper)]]


def spoilt_papers(paper, chance):
    """Papers of this class with one part exchanged, and papers of other classes with the same parts."""
    parts = parts_of(paper)
    for at, part in enumerate(parts):
        for other in [*spoilt(part, chance), *chance.sample(any_values(), 5)]:
            yield type(paper)(*parts[:at], other, *parts[at + 1:])
    for other, names in NAMES.items():
        if len(names) == len(parts) and other is not type(paper):
            yield other(*parts)


def spoilt(value, chance):
    """Values that differ a little from this one."""
    if isinstance(value, bool):
        return [not value, int(value), None]
    if isinstance(value, int):
        return [value + 1, value - 1, value + BIG, value - BIG, -value, str(value), Rate(value), (value,), None,
                bool(value)]
    if isinstance(value, str):
        return [value + "a", value[:-1], value.upper(), "load", "pull", "leave", "a", (value,)]
    if isinstance(value, Rate):
        return [value + Rate(1, 1000), value - Rate(1, 1000), value + 1, -value, value.top, str(value), None]
    if isinstance(value, (list, tuple)):
        return spoilt_row(value, chance)
    if isinstance(value, dict):
        return spoilt_table(value, chance)
    return list(spoilt_papers(value, chance))


def spoilt_row(row, chance):
    found = [list(row), tuple(row[:-1]), tuple(row[1:]), (*row, *row), (*row, *row[:1]), (*row, None), row[::-1], ()]
    for at in chance.sample(range(len(row)), min(len(row), 3)):
        for other in spoilt(row[at], chance):
            found.append((*row[:at], other, *row[at + 1:]))
    return found


def spoilt_table(table, chance):
    found = [{}, list(table), tuple(table.items()), {**table, None: 0}, {**table, "a": 0, (): 0}, {**table, 0: 0}]
    for key in chance.sample(list(table), min(len(table), 4)):
        rest = {other: table[other] for other in table if other != key}
        found.append(rest)
        found.extend({**table, key: other} for other in spoilt(table[key], chance))
        for other in spoilt(key, chance):
            if is_key(other):
                found.extend([{**rest, other: table[key]}, {**table, other: table[key]}])
    return found


def is_key(value):
    try:
        hash(value)
    except TypeError:
        return False
    return True
