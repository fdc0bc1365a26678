"""Ways of least cost from a word to the words of a target.

A place on a way is a pair: how many signs of the word have been treated, and which state of the target is reached.
"""

from mendnumber.base.prices import costs_by_ends
from mendnumber.core.readers import Reader


class Places:
    """The costs of the places for a word, and the steps of least cost between them; they never change."""

    def __init__(self, word, target, prices):
        reader = Reader(target, prices)
        self.word = word
        self.machine = target.states
        self.by_ends = costs_by_ends(prices)
        self.rows = reader.rows_along(word)
        self.cost = reader.end_cost(self.rows[-1])

    def final_places(self):
        """The places at the end of the word where a word of the target ends that costs no more than is needed."""
        many = len(self.word)
        row = self.rows[many]
        return [(many, at) for at, (_, last) in enumerate(self.machine) if last and row[at] == self.cost]

    def steps_to(self, place):
        """The last steps of the ways of least cost to a place: the place ahead, the old sign, the new sign.

        The old sign is "" where a sign is put in, the new one where a sign is taken out.
        """
        at, state = place
        found = []
        if at > 0 and self._fits((at - 1, state), place, self.word[at - 1], ""):
            found.append(((at - 1, state), self.word[at - 1], ""))
        for near, (moves, _) in enumerate(self.machine):
            for sign in moves:
                if moves[sign] == state:
                    if self._fits((at, near), place, "", sign):
                        found.append(((at, near), "", sign))
                    if at > 0 and self._fits((at - 1, near), place, self.word[at - 1], sign):
                        found.append(((at - 1, near), self.word[at - 1], sign))
        return found

    def cost_of(self, place):
        """The least cost of a way to a place."""
        at, state = place
        return self.rows[at][state]

    def _fits(self, near, place, old, new):
        """Whether a step between two places is on a way of least cost to the second one."""
        return self.cost_of(near) + self.by_ends[old, new] == self.cost_of(place)


def ends_of_mending(places):
    """The pairs of old and new signs of a way of least cost from the word to a word of the target."""
    place = places.final_places()[0]
    pairs = []
    while place != (0, 0):
        place, old, new = places.steps_to(place)[0]
        pairs.append((old, new))
    return pairs[::-1]
