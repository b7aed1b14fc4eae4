"""Whether one rule is never dearer than another one."""

from emptypulls.arguments import check_tour
from emptypulls.kinds import Twinned, are_same, copied
from emptypulls.rules import check_rule, check_strandless, first_state, ruled_step, ruled_walk
from emptypulls.stands import check_stand
from emptypulls.walks import Walk


class Cheap(Twinned):
    """A paper: marks by which a rule has never paid more than another one."""

    def __init__(self, marks):
        self.marks = copied(marks)

    def twin(self):
        """An equal paper with lists and dicts of its own."""
        return Cheap(self.marks)

    def __bool__(self):
        return True

    def __eq__(self, other):
        return isinstance(other, Cheap) and are_same(self.marks, other.marks)


class Dearer(Twinned):
    """A paper: a row of loads behind which a rule has paid more than another one."""

    def __init__(self, loads):
        self.loads = copied(loads)

    def twin(self):
        """An equal paper with lists and dicts of its own."""
        return Dearer(self.loads)

    def __bool__(self):
        return False

    def __eq__(self, other):
        return isinstance(other, Dearer) and are_same(self.loads, other.loads)


class Lead:
    """The most by which one rule is dearer behind rows of loads of a length, for the states of a walk.

    A trace is a tuple of a state, what one rule has paid more by then, the number of the trace ahead, and the load.
    Only those traces are kept that lead by more than all shorter ones to their state.
    """

    def __init__(self, walk):
        self.walk = walk
        self.traces = [(0, 0, None, None)]
        self.marks = {0: 0}

    def longer(self, ends):
        """The numbers of the kept traces that are one trip longer than those of these numbers."""
        found = {}
        for ahead in ends:
            state, lead, _, _ = self.traces[ahead]
            steps = self.walk.onward[state]
            for load, (more, behind) in zip((False, True), steps):
                if behind not in self.marks or lead + more > self.marks[behind]:
                    self.marks[behind] = lead + more
                    found[behind] = len(self.traces)
                    self.traces.append((behind, lead + more, ahead, load))
        return [found[state] for state in found]

    def dearer(self, ends):
        """The row of loads of the first of these traces on which one rule has paid more; None if there is none."""
        for end in ends:
            if self.traces[end][1] > 0:
                return self.row_to(end)
        return None

    def row_to(self, end):
        """The loads of a trace."""
        row = []
        _, _, ahead, load = self.traces[end]
        while ahead is not None:
            row.append(load)
            _, _, ahead, load = self.traces[ahead]
        return tuple(row[::-1])


def never_dearer(tour, one, other, stand):
    """Whether behind each trip of all rows of loads one rule has paid at most what another one has."""
    check_tour(tour, "tour")
    check_rule(one, "one")
    check_rule(other, "other")
    check_stand(tour, stand)
    check_strandless(ruled_walk(tour, one, stand))
    check_strandless(ruled_walk(tour, other, stand))
    first = first_state(tour, stand)
    walk = Walk((*first, *first[1:]), lambda state, load: compared_step(tour, one, other, state, load))
    lead = Lead(walk)
    ends = [0]
    while len(ends) > 0:
        ends = lead.longer(ends)
        loads = lead.dearer(ends)
        if loads is not None:
            return Dearer(loads)
    return Cheap({state: lead.marks[at] for at, state in enumerate(walk.states)})


def compared_step(tour, one, other, state, load):
    """What one rule pays more than another one for a trip, and what both come to; None if a load is left standing."""
    index, begun, now, begun_other, now_other = state
    told = ruled_step(tour, one, (index, begun, now), load)
    told_other = ruled_step(tour, other, (index, begun_other, now_other), load)
    if told is None or told_other is None:
        return None
    paid, (ahead, begun, now) = told
    paid_other, (_, begun_other, now_other) = told_other
    return paid - paid_other, (ahead, begun, now, begun_other, now_other)
