"""What takes the place of a sign when a word is changed into one of a target."""

from heapq import heappop, heappush

from mendnumber.base.prices import costs_by_ends


class Replacements:
    """Words of least cost that lead from state to state of a target, in the place of signs; they never change."""

    def __init__(self, target, prices):
        self._goals = target.states
        self._costs = costs_by_ends(prices)
        self._cheapest = [_cheapest_words(self._goals, self._costs, near) for near in range(len(self._goals))]

    def put_between(self, near, to):
        """A word of least put prices that leads from a state to a state."""
        return self._cheapest[near][to][1]

    def put_to_end(self, near):
        """A word of least put prices that leads from a state to a last one."""
        found = self._cheapest[near]
        return min([found[to] for to in found if self._goals[to][1]])[1]

    def with_put_ahead(self, sign, near, to):
        """The word that is put in ahead of a sign, and what becomes of the sign, on the cheapest way to a state."""
        puts = self._cheapest[near]
        return min([
            (puts[via][0] + price, puts[via][1], new)
            for via in puts for price, new, behind in self._steps(sign, via) if behind == to
        ])[1:]

    def with_put_behind(self, sign, near, to):
        """What becomes of a sign, and the word that is put in behind it, on the cheapest way to a state."""
        return min([
            (price + self._cheapest[via][to][0], new, self._cheapest[via][to][1])
            for price, new, via in self._steps(sign, near) if to in self._cheapest[via]
        ])[1:]

    def _steps(self, sign, near):
        """What can become of a sign at a state: the price, the new sign or "", and the state behind it."""
        moves = self._goals[near][0]
        return [(self._costs[sign, ""], "", near)] + [(self._costs[sign, new], new, moves[new]) for new in moves]


def _cheapest_words(goals, costs, start):
    """For each state to which words lead from a state the least sum of put prices of such a word, and the word."""
    found = {}
    queue = [(0, "", start)]
    while queue:
        paid, word, state = heappop(queue)
        if state not in found:
            found[state] = (paid, word)
            moves = goals[state][0]
            for sign in moves:
                heappush(queue, (paid + costs["", sign], word + sign, moves[sign]))
    return found
