"""Changes of words, rows of changes, and what they cost."""

from mendnumber.base.integers import is_number, is_number_within
from mendnumber.base.prices import check_prices, costs_by_ends, have_signs
from mendnumber.base.words import check_word, is_sign
from mendnumber.errors import InvalidChange, InvalidOperation, TooMany

MAX_COMPARED = 200


def changed(word, changes):
    """The word behind a row of changes."""
    return word_behind(word, _checked_steps(word, changes))


def undone(word, changes):
    """The row of changes that leads back to the word, from the last change to the first one."""
    return tuple([_change(at, new, old) for at, old, new in _checked_steps(word, changes)[::-1]])


def price_of(word, changes, prices):
    """The price of a row of changes."""
    steps = _checked_steps(word, changes)
    check_prices(prices)
    price = price_of_steps(steps, prices)
    if price is None:
        raise InvalidOperation("a change has no price")
    return price


def distance(one, other, prices):
    """The cost from a word to a word."""
    _check_pair(one, other, prices)
    return _cost_between(one, other, costs_by_ends(prices))


def least_changes(one, other, prices):
    """A row of changes from a word to a word whose price is the cost."""
    _check_pair(one, other, prices)
    pairs = _aligned(one, other, costs_by_ends(prices))
    return changes_between([_ends_of(pair, one, other) for pair in pairs], prices)


def is_least_changes(one, other, prices, value):
    """Whether the value is a row of changes from a word to a word whose price is the cost."""
    _check_pair(one, other, prices)
    steps = steps_of(one, value)
    if steps is None or word_behind(one, steps) != other:
        return False
    return price_of_steps(steps, prices) == _cost_between(one, other, costs_by_ends(prices))


def alignment(one, other, prices):
    """An alignment of two words whose price is the cost."""
    _check_pair(one, other, prices)
    return tuple(_aligned(one, other, costs_by_ends(prices)))


def is_alignment(one, other, prices, value):
    """Whether the value is an alignment of two words whose price is the cost."""
    _check_pair(one, other, prices)
    if not _aligns(value, len(one), len(other)):
        return False
    costs = costs_by_ends(prices)
    price = sum([costs[_ends_of(pair, one, other)] for pair in value])
    return price == _cost_between(one, other, costs)


def steps_of(word, value):
    """For each change of a row its index, the sign that it takes away and the one that it sets; "" stands for none.

    None if the value is not a row of changes of this word.
    """
    if not isinstance(value, tuple):
        return None
    signs = list(word)
    steps = []
    for change in value:
        if not _is_change(change, signs):
            return None
        at = change[1]
        old = "" if change[0] == "put" else signs[at]
        new = "" if change[0] == "out" else change[2]
        signs[at:at + len(old)] = list(new)
        steps.append((at, old, new))
    return steps


def price_of_steps(steps, prices):
    """The price of the steps of a row of changes, or None if one of them has no price."""
    table = _prices_by_ends(prices)
    if not all([(old, new) in table for _, old, new in steps]):
        return None
    return sum([table[old, new] for _, old, new in steps])


def changes_between(ends, prices):
    """A row of changes that makes the one row of signs of the other one, at the cost of the pairs together.

    The ends are pairs of what stands in a place first and in the end; "" stands for no sign.
    """
    table = _prices_by_ends(prices)
    costs = costs_by_ends(prices)
    changes = []
    at = 0
    for start, end in ends:
        way = _way(start, end, table, costs)
        for old, new in zip(way, way[1:]):
            changes.append(_change(at, old, new))
        at += len(end)
    return tuple(changes)


def _checked_steps(word, changes):
    """The steps of a row of changes, if the values are a word and such a row."""
    check_word(word)
    steps = steps_of(word, changes)
    if steps is None:
        raise InvalidChange("not a row of changes of this word")
    return steps


def _check_pair(one, other, prices):
    """Refuse what is no pair of words of at most MAX_COMPARED signs that have prices."""
    check_word(one)
    check_word(other)
    check_prices(prices)
    if not have_signs(prices, one + other):
        raise InvalidOperation("a sign has no prices")
    if max(len(one), len(other)) > MAX_COMPARED:
        raise TooMany(MAX_COMPARED)


def _is_change(value, signs):
    """Whether the value is a change that can be made of these signs."""
    if not isinstance(value, tuple) or len(value) not in (2, 3):
        return False
    if value[0] == "put":
        return len(value) == 3 and is_number_within(value[1], 0, len(signs)) and is_sign(value[2])
    if not is_number_within(value[1], 0, len(signs) - 1):
        return False
    if value[0] == "out":
        return len(value) == 2
    return value[0] == "swap" and len(value) == 3 and is_sign(value[2]) and value[2] != signs[value[1]]


def _change(at, old, new):
    """The change that sets one sign in the place of another one at this index; "" stands for none."""
    if old == "":
        return ("put", at, new)
    if new == "":
        return ("out", at)
    return ("swap", at, new)


def word_behind(word, steps):
    """The word behind the steps of a row of changes."""
    signs = list(word)
    for at, old, new in steps:
        signs[at:at + len(old)] = list(new)
    return "".join(signs)


def _prices_by_ends(prices):
    """The prices of single changes, by pairs of what they take away and set."""
    table = {}
    put = prices.put
    out = prices.out
    for sign in prices.signs:
        table["", sign] = put[sign]
        table[sign, ""] = out[sign]
    swap = prices.swap
    for pair in swap:
        table[pair] = swap[pair]
    return table


def _way(start, end, table, costs):
    """What stands in one place, one behind the other, when the start becomes the end at its cost."""
    way = [start]
    while way[-1] != end:
        here = way[-1]
        # Each change costs something, so what is left to pay gets less with each step.
        way.append(min([
            new for old, new in table if old == here and table[old, new] + costs[new, end] == costs[here, end]
        ]))
    return way


def _cost_between(one, other, costs):
    """The cost from a word to a word."""
    return _cost_rows(one, other, costs)[-1][-1]


def _cost_rows(one, other, costs):
    """The costs from the first 0, 1, .. signs of a word to the first 0, 1, .. signs of the other one."""
    rows = [[0]]
    for sign in other:
        rows[0].append(rows[0][-1] + costs["", sign])
    for old in one:
        above = rows[-1]
        row = [above[0] + costs[old, ""]]
        for at, new in enumerate(other):
            row.append(min(
                above[at + 1] + costs[old, ""],
                row[at] + costs["", new],
                above[at] + costs[old, new],
            ))
        rows.append(row)
    return rows


def _aligned(one, other, costs):
    """The pairs of an alignment of two words whose price is the cost."""
    rows = _cost_rows(one, other, costs)
    i = len(one)
    j = len(other)
    pairs = []
    while i > 0 or j > 0:
        pair = _last_pair(one[:i], other[:j], rows, costs)
        pairs.append(pair)
        if pair[0] is not None:
            i -= 1
        if pair[1] is not None:
            j -= 1
    return pairs[::-1]


def _last_pair(one, other, rows, costs):
    """The last pair of an alignment of two words, by the costs between their beginnings."""
    i = len(one) - 1
    j = len(other) - 1
    cost = rows[i + 1][j + 1]
    if one and cost == rows[i][j + 1] + costs[one[i], ""]:
        return (i, None)
    if other and cost == rows[i + 1][j] + costs["", other[j]]:
        return (None, j)
    return (i, j)


def _ends_of(pair, one, other):
    """What a pair of an alignment takes away and sets; "" stands for no sign."""
    old = "" if pair[0] is None else one[pair[0]]
    new = "" if pair[1] is None else other[pair[1]]
    return (old, new)


def _aligns(value, many, others):
    """Whether the value is an alignment of words of so many signs."""
    if not isinstance(value, tuple) or not all([_is_index_pair(pair) for pair in value]):
        return False
    indices = [pair[0] for pair in value if pair[0] is not None]
    other_indices = [pair[1] for pair in value if pair[1] is not None]
    return indices == list(range(many)) and other_indices == list(range(others))


def _is_index_pair(value):
    """Whether the value is a pair of two integers, or of one and None."""
    if not isinstance(value, tuple) or len(value) != 2 or value == (None, None):
        return False
    return all([part is None or is_number(part) for part in value])
