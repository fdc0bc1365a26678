"""Rows of bound tables: high ones, above which there are no others."""

from heapq import heappop, heappush

from mendnumber.base.integers import is_number_within
from mendnumber.base.orders import is_ascending
from mendnumber.core.readers import cut, is_above
from mendnumber.core.rows import is_row_of

# So many rows of each state are compared with a new one; more of them would spare less than they cost.
MAX_TALL = 20


def is_table_for(source, reader, most, value):
    """Whether the value is a bound table for a source, the target and prices of a reader, and a number."""
    if not _is_table(value, len(source), len(reader.start), most + 1):
        return False
    states = source.states
    if not is_covered(cut(reader.start, most + 1), value[0]):
        return False
    return all([_holds(states[state], value[state], value, reader, most) for state in range(len(source))])


def highest_rows(states, reader, most):
    """The rows of a bound table, as lists by the states of the source, or None if some word costs more.

    All of them are cut rows of words. A row below another one is left out, as nothing below it costs more.
    """
    limit = most + 1
    table = {state: [] for state in range(len(states))}
    start = cut(reader.start, limit)
    queue = [(-sum(start), 0, start)]
    while queue:
        # High rows come first, so that they spare the others.
        _, state, row = heappop(queue)
        if not is_covered(row, table[state]):
            moves, last = states[state]
            if last and reader.end_cost(row) > most:
                return None
            table[state] = [other for other in table[state] if not is_above(row, other)] + [row]
            for sign in moves:
                behind = reader.cut_behind(row, sign, limit)
                heappush(queue, (-sum(behind), moves[sign], behind))
    return table


def is_covered(row, rows):
    """Whether some of these rows is above a row."""
    for other in rows:
        if is_above(other, row):
            return True
    return False


def first_word_above(states, reader, most):
    """The first word of the source that costs more; there has to be one."""
    limit = most + 1
    start = cut(reader.start, limit)
    queue = [(0, start, "")]
    found = {(0, start): True}
    tall = {state: [] for state in range(len(states))}
    at = 0
    while True:
        state, row, word = queue[at]
        moves, last = states[state]
        if last and reader.end_cost(row) > most:
            return word
        for sign in moves:
            to = moves[sign]
            behind = reader.cut_behind(row, sign, limit)
            # What costs more behind a row costs more behind a row above it, too, and that one has an earlier word.
            if (to, behind) not in found and not _is_below_tall(behind, tall[to]):
                found[to, behind] = True
                queue.append((to, behind, word + sign))
                tall[to] = sorted(tall[to] + [(sum(behind), behind)], reverse=True)[:MAX_TALL]
        at += 1


def _is_below_tall(row, tall):
    """Whether one of these rows is above a row; each stands behind its sum, and the sums descend."""
    total = sum(row)
    for height, other in tall:
        if height < total:
            return False
        if is_above(other, row):
            return True
    return False


def _is_table(value, many, length, most):
    """Whether the value is a dict from so many states to ascending tuples of rows with numbers up to `most`."""
    if not isinstance(value, dict) or len(value) != many:
        return False
    if not all([is_number_within(state, 0, many - 1) for state in value]):
        return False
    return all([_are_rows(rows, length, most) for rows in value.values()])


def _are_rows(value, length, most):
    """Whether the value is an ascending tuple of at least one row of this length with numbers up to `most`."""
    if not isinstance(value, tuple) or not value:
        return False
    if not all([is_row_of(row, length, most) for row in value]):
        return False
    return is_ascending(value)


def _holds(state, rows, table, reader, most):
    """Whether the rows of a state cost at most so much, and the rows behind them are covered by a table."""
    moves, last = state
    if last and max([reader.end_cost(row) for row in rows]) > most:
        return False
    for sign in moves:
        ahead = table[moves[sign]]
        known = {row: True for row in ahead}
        for row in rows:
            behind = reader.cut_behind(row, sign, most + 1)
            if behind not in known and not is_covered(behind, ahead):
                return False
    return True
