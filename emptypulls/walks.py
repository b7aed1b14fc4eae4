"""The states that can be come to by rows of loads."""

from emptypulls.errors import TooMany

MOST_STATES = 2000


class Walk:
    """The states, in the order of their shortest rows of loads, of equal length the first one, False ahead of True.

    Behind is a function from a state and a load to what is paid and the state behind, or to None if the load is
    left standing: then nothing comes behind it.
    """

    def __init__(self, first, behind):
        self.states = [first]
        self.numbers = {first: 0}
        # How each state is come to: the number of the state ahead and the load; and where it leads without and with
        # a load: what is paid and the number of the state behind.
        self.origins = [None]
        self.onward = []
        while len(self.onward) < len(self.states):
            at = len(self.onward)
            self.onward.append([self._behind(at, load, behind(self.states[at], load)) for load in (False, True)])

    def _behind(self, at, load, told):
        if told is None:
            return None
        paid, state = told
        if state not in self.numbers:
            if len(self.states) == MOST_STATES:
                raise TooMany("states", MOST_STATES)
            self.numbers[state] = len(self.states)
            self.states.append(state)
            self.origins.append((at, load))
        return paid, self.numbers[state]

    def row_to(self, at):
        """The shortest row of loads to the state of this number, of several the first one."""
        row = []
        while self.origins[at] is not None:
            at, load = self.origins[at]
            row.append(load)
        return tuple(row[::-1])

    def row_left_standing(self):
        """The shortest row of loads at the end of which one is left standing, of several the first one, or None."""
        for at, (_, loaded) in enumerate(self.onward):
            if loaded is None:
                return (*self.row_to(at), True)
        return None
