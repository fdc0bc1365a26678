"""The greatest cost of a source that is bounded, and what shows it."""

from mendnumber.core.readers import Reader, cut
from mendnumber.decide.heights import first_word_above, highest_rows, is_covered

# The first number that is tried; a greater one makes longer ways to the highest rows.
FIRST_TRIED = 7


class Peak:
    """The greatest cost of a word of the source to a target, if they are bounded; it never changes."""

    def __init__(self, source, target, prices):
        self.source = source
        self.reader = Reader(target, prices)
        states = source.states
        tried = FIRST_TRIED
        self._rows = highest_rows(states, self.reader, tried)
        while self._rows is None:
            tried = 2 * tried + 1
            self._rows = highest_rows(states, self.reader, tried)
        self.height = max([
            self.reader.end_cost(row) for state, (_, last) in enumerate(states) if last for row in self._rows[state]
        ])

    def dearest(self):
        """The first word of the greatest cost."""
        if self.height == 0:
            return self.source.first
        return first_word_above(self.source.states, self.reader, self.height - 1)

    def table(self):
        """A bound table for the greatest cost."""
        return {state: _tops([cut(row, self.height + 1) for row in self._rows[state]]) for state in sorted(self._rows)}


def _tops(rows):
    """The ascending tuple of those of these rows above which there are no others."""
    kept = []
    # A row that is above another one has a greater sum.
    for row in sorted(rows, key=sum, reverse=True):
        if not is_covered(row, kept):
            kept.append(row)
    return tuple(sorted(kept))
