"""How a target reads words that are changed."""

from mendnumber.base.prices import costs_by_ends


class Reader:
    """The rows of a target at the closed prices of prices; it never changes."""

    def __init__(self, target, prices):
        states = target.states
        costs = costs_by_ends(prices)
        gaps = put_costs(states, costs)
        self.start = tuple([gaps[0, to] for to in range(len(states))])
        self.last_states = tuple([at for at, (_, last) in enumerate(states) if last])
        self.ways = {sign: _ways(states, sign, costs, gaps) for sign in prices.signs}

    def behind(self, row, sign):
        """The row behind a row and a sign."""
        return tuple([min([row[near] + price for near, price in ways]) for ways in self.ways[sign]])

    def cut_behind(self, row, sign, limit):
        """The row behind a row and a sign, cut."""
        return cut(self.behind(row, sign), limit)

    def end_cost(self, row):
        """The least number of a row at last states."""
        return min([row[at] for at in self.last_states])

    def word_cost(self, word):
        """The cost of a word to the target."""
        row = self.start
        for sign in word:
            row = self.behind(row, sign)
        return self.end_cost(row)

    def rows_along(self, word):
        """The rows of the first 0, 1, .. signs of a word."""
        found = [self.start]
        for sign in word:
            found.append(self.behind(found[-1], sign))
        return found


def cut(row, limit):
    """A row with the limit in the place of greater numbers."""
    return tuple([min(number, limit) for number in row])


def is_above(one, other):
    """Whether no number of a row is less than that of the other one."""
    for number, least in zip(one, other):
        if number < least:
            return False
    return True


def put_costs(states, costs):
    """The least costs of words that lead from a state to a state, by pairs of states between which words lead."""
    found = {(at, at): 0 for at in range(len(states))}
    for at, (moves, _) in enumerate(states):
        for sign in moves:
            _lower(found, (at, moves[sign]), costs["", sign])
    for via in range(len(states)):
        for near in range(len(states)):
            for to in range(len(states)):
                if (near, via) in found and (via, to) in found:
                    _lower(found, (near, to), found[near, via] + found[via, to])
    return found


def _ways(states, sign, costs, gaps):
    """For each state pairs of a state ahead of a sign, and the least cost from there with the sign to this state."""
    found = {}
    for near, (moves, _) in enumerate(states):
        steps = [(near, costs[sign, ""])] + [(moves[new], costs[sign, new]) for new in moves]
        for via, price in steps:
            for to in range(len(states)):
                if (via, to) in gaps:
                    _lower(found, (near, to), price + gaps[via, to])
    return tuple([
        tuple([(ahead, found[ahead, to]) for ahead in range(len(states)) if (ahead, to) in found])
        for to in range(len(states))
    ])


def _lower(table, key, number):
    """Set a number in a dict, if there is no lower one."""
    table[key] = min(number, table.get(key, number))
