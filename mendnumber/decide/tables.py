"""Whether each word of a source costs at most a number."""

from heapq import heappop, heappush

from mendnumber.base.integers import check_number, is_number_within
from mendnumber.base.prices import check_prices
from mendnumber.core.readers import Reader, cut, is_above
from mendnumber.core.rows import is_row_of
from mendnumber.core.tasks import check_treated
from mendnumber.errors import InvalidOperation
from mendnumber.forms.form import check_form, least_form

MAX_MOST = 60
MAX_LEVEL = 20
# So many rows of each state are compared with a new one; more of them would spare less than they cost.
MAX_TALL = 20


def costs_at_most(source, target, prices, most):
    """Whether each word of the source costs at most so much."""
    _check_question(source, target, prices, most, MAX_MOST)
    return _highest_rows(source.states, Reader(target, prices), most) is not None


def first_above(source, target, prices, most):
    """The first word of the source that costs more, or None."""
    _check_question(source, target, prices, most, MAX_MOST)
    reader = Reader(target, prices)
    if _highest_rows(source.states, reader, most) is not None:
        return None
    return _first_word_above(source.states, reader, most)


def bound_table(source, target, prices, most):
    """A bound table for this number."""
    _check_question(source, target, prices, most, MAX_MOST)
    table = _highest_rows(source.states, Reader(target, prices), most)
    if table is None:
        raise InvalidOperation("a word of the source costs more")
    return {state: tuple(sorted(table[state])) for state in sorted(table)}


def is_bound_table(source, target, prices, most, value):
    """Whether the value is a bound table for this number."""
    _check_question(source, target, prices, most, MAX_MOST)
    if not _is_table(value, len(source), len(target), most + 1):
        return False
    states = source.states
    reader = Reader(target, prices)
    if not _is_covered(cut(reader.start, most + 1), value[0]):
        return False
    return all([_holds(states[state], value[state], value, reader, most) for state in range(len(source))])


def level_form(source, target, prices, most):
    """The least form of the words of the source that cost at most so much."""
    _check_question(source, target, prices, most, MAX_LEVEL)
    return least_form(_level_machine(source.states, Reader(target, prices), most))


def _check_question(source, target, prices, most, greatest):
    """Refuse what cannot be asked: wrong kinds first, then forms and prices that cannot be treated together."""
    check_form(source)
    check_form(target)
    check_prices(prices)
    check_number(most, 0, greatest)
    check_treated((source, target), prices, "")


def _highest_rows(states, reader, most):
    """The rows of a bound table, as lists by the states of the source, or None if some word costs more.

    All of them are cut rows of words. A row below another one is left out, as nothing below it costs more.
    """
    limit = most + 1
    table = {state: [] for state in range(len(states))}
    start = cut(reader.start, limit)
    queue = [(-sum(start), 0, start)]
    while queue:
        # High rows come first, so that they spare the others.
        _, state, row = heappop(queue)
        if not _is_covered(row, table[state]):
            moves, last = states[state]
            if last and reader.end_cost(row) > most:
                return None
            table[state] = [other for other in table[state] if not is_above(row, other)] + [row]
            for sign in moves:
                behind = reader.cut_behind(row, sign, limit)
                heappush(queue, (-sum(behind), moves[sign], behind))
    return table


def _is_covered(row, rows):
    """Whether some of these rows is above a row."""
    for other in rows:
        if is_above(other, row):
            return True
    return False


def _first_word_above(states, reader, most):
    """The first word of the source that costs more; there has to be one."""
    limit = most + 1
    start = cut(reader.start, limit)
    queue = [(0, start, "")]
    found = {(0, start): True}
    tall = {state: [] for state in range(len(states))}
    at = 0
    while True:
        state, row, word = queue[at]
        moves, last = states[state]
        if last and reader.end_cost(row) > most:
            return word
        for sign in moves:
            to = moves[sign]
            behind = reader.cut_behind(row, sign, limit)
            # What costs more behind a row costs more behind a row above it, too, and that one has an earlier word.
            if (to, behind) not in found and not _is_below_tall(behind, tall[to]):
                found[to, behind] = True
                queue.append((to, behind, word + sign))
                tall[to] = sorted(tall[to] + [(sum(behind), behind)], reverse=True)[:MAX_TALL]
        at += 1


def _is_below_tall(row, tall):
    """Whether one of these rows is above a row; each stands behind its sum, and the sums descend."""
    total = sum(row)
    for height, other in tall:
        if height < total:
            return False
        if is_above(other, row):
            return True
    return False


def _is_table(value, many, length, most):
    """Whether the value is a dict from so many states to ascending tuples of rows with numbers up to `most`."""
    if not isinstance(value, dict) or len(value) != many:
        return False
    if not all([is_number_within(state, 0, many - 1) for state in value]):
        return False
    return all([_are_rows(rows, length, most) for rows in value.values()])


def _are_rows(value, length, most):
    """Whether the value is an ascending tuple of at least one row of this length with numbers up to `most`."""
    if not isinstance(value, tuple) or not value:
        return False
    if not all([is_row_of(row, length, most) for row in value]):
        return False
    return all([one < other for one, other in zip(value, value[1:])])


def _holds(state, rows, table, reader, most):
    """Whether the rows of a state cost at most so much, and the rows behind them are covered by a table."""
    moves, last = state
    if last and max([reader.end_cost(row) for row in rows]) > most:
        return False
    for sign in moves:
        ahead = table[moves[sign]]
        known = {row: True for row in ahead}
        for row in rows:
            behind = reader.cut_behind(row, sign, most + 1)
            if behind not in known and not _is_covered(behind, ahead):
                return False
    return True


def _level_machine(states, reader, most):
    """The machine of the words that cost at most so much; its states are those of the source with cut rows."""
    limit = most + 1
    start = (0, cut(reader.start, limit))
    numbers = {start: 0}
    places = [start]
    machine = []
    while len(machine) < len(places):
        state, row = places[len(machine)]
        moves, last = states[state]
        kept = {}
        for sign in moves:
            place = (moves[sign], reader.cut_behind(row, sign, limit))
            # From a row of numbers that are all too great no words of the level go on.
            if min(place[1]) < limit:
                if place not in numbers:
                    numbers[place] = len(places)
                    places.append(place)
                kept[sign] = numbers[place]
        machine.append((kept, last and reader.end_cost(row) <= most))
    return machine
