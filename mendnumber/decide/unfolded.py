"""Sources whose states are told apart by what the words that lead there cost."""

from mendnumber.core.readers import cut


class Unfolded:
    """A machine with the words of a source; its states, places, are those of the source with cut rows.

    Words of which each continuation costs at least the limit are left out.
    """

    def __init__(self, source, reader, limit):
        states = source.states
        start = (0, cut(reader.start, limit))
        numbers = {start: 0}
        # Several states of the source often have the same rows.
        rows = {}
        self.places = [start]
        self.moves = []
        while len(self.moves) < len(self.places):
            state, row = self.places[len(self.moves)]
            moves = states[state][0]
            kept = {}
            for sign in sorted(moves):
                if (row, sign) not in rows:
                    rows[row, sign] = reader.cut_behind(row, sign, limit)
                place = (moves[sign], rows[row, sign])
                # From a row of numbers that are all too great no words go on that cost less.
                if min(place[1]) < limit:
                    if place not in numbers:
                        numbers[place] = len(self.places)
                        self.places.append(place)
                    kept[sign] = numbers[place]
            self.moves.append(kept)
        # For each place the cost of the word that ends there, or None.
        self.end_costs = [reader.end_cost(row) if states[state][1] else None for state, row in self.places]

    def machine_of(self, costs):
        """The machine of the words that cost one of these numbers."""
        return [(moves, cost in costs) for moves, cost in zip(self.moves, self.end_costs)]
