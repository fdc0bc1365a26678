"""The positions of hurried menders, and what they can do there."""

from mendnumber.base.integers import is_number_within
from mendnumber.base.prices import costs_by_ends
from mendnumber.base.words import is_word
from mendnumber.core.readers import put_costs
from mendnumber.forms.machines import walked


class Arena:
    """The game of a source and a target, of closed prices, and of windows with some signs ahead; it never changes."""

    def __init__(self, source, target, prices, ahead):
        self.full = ahead + 1
        self.machine = source.states
        costs = costs_by_ends(prices)
        goals = target.states
        self.many = len(goals)
        self.gaps = put_costs(goals, costs)
        self.pays = {sign: _pays(goals, sign, costs, self.gaps) for sign in source.signs}
        self.end_prices = [
            min([self.gaps[near, to] for to in range(self.many) if (near, to) in self.gaps and goals[to][1]])
            for near in range(self.many)
        ]

    def first_seats(self):
        """The seats of the first positions."""
        return self.seats_from(0, "")

    def seats_from(self, state, window):
        """The seats from a state on whose windows begin with this one, which is not too long."""
        at = walked(self.machine, window, state)[-1]
        if len(window) == self.full:
            return [(state, window)]
        moves, last = self.machine[at]
        found = [(state, window)] if last else []
        for sign in sorted(moves):
            found.extend(self.seats_from(state, window + sign))
        return found

    def seats_behind(self, seat):
        """The seats of the positions that can follow when the first sign of a window is treated."""
        state, window = seat
        behind = self.machine[state][0][window[0]]
        if len(window) == self.full:
            return self.seats_from(behind, window[1:])
        return [(behind, window[1:])]

    def is_full(self, seat):
        """Whether the window of a seat is full."""
        return len(seat[1]) == self.full

    def is_position(self, value):
        """Whether the value is a position."""
        if not isinstance(value, tuple) or len(value) != 3:
            return False
        state, window, goal = value
        if not is_number_within(state, 0, len(self.machine) - 1) or not is_number_within(goal, 0, self.many - 1):
            return False
        if not is_word(window) or len(window) > self.full:
            return False
        states = walked(self.machine, window, state)
        if len(states) <= len(window):
            return False
        return len(window) == self.full or self.machine[states[-1]][1]


def _pays(goals, sign, costs, gaps):
    """For each state of a target a list of pairs of a reply to a sign, and what it pays."""
    found = []
    for near in range(len(goals)):
        pays = {}
        for via in range(len(goals)):
            if (near, via) in gaps:
                steps = [(via, costs[sign, ""])] + [(to, costs[sign, new]) for new, to in goals[via][0].items()]
                for to, price in steps:
                    pays[to] = min(gaps[near, via] + price, pays.get(to, gaps[near, via] + price))
        found.append([(to, pays[to]) for to in sorted(pays)])
    return found
