"""Guards: moves of a source that are left out, so that the words that are left cost less."""

from mendnumber.base.integers import is_number
from mendnumber.base.orders import is_ascending
from mendnumber.base.words import is_sign
from mendnumber.core.readers import Reader
from mendnumber.decide.heights import first_word_above, highest_rows
from mendnumber.forms.form import form_without
from mendnumber.rings.chains import are_bounded, family_of
from mendnumber.rings.families import copied_word, grows, is_family

MAX_RETURNED = 4000


class Guarding:
    """What guards of a source have to reach: that the words that are left cost at most a number, or are bounded."""

    def __init__(self, source, target, prices, most):
        self._source = source
        self._target = target
        self._tariff = prices
        self._limit = most

    def is_enough(self, guard):
        """Whether a guard is enough."""
        left = form_without(self._source, guard)
        if left is None:
            return True
        if self._limit is None:
            return are_bounded(left, self._target)
        return highest_rows(left.states, Reader(self._target, self._tariff), self._limit) is not None

    def reason(self, guard):
        """Why a guard is not enough: a growing family, or a word that is left and costs more."""
        left = form_without(self._source, guard)
        family = family_of(left, self._target)
        if self._limit is None:
            return family
        if family is not None:
            word = copied_word(family, self._limit // self._tariff.smallest + 1)
            if len(word) <= MAX_RETURNED:
                return word
        return first_word_above(left.states, Reader(self._target, self._tariff), self._limit)

    def is_reason(self, guard, value):
        """Whether the value shows that a guard is not enough."""
        left = form_without(self._source, guard)
        if left is None:
            return False
        if self._limit is None:
            return is_family(value) and grows(left.states, self._target.states, value)
        return value in left and Reader(self._target, self._tariff).word_cost(value) > self._limit


def ranked_guards(tolls):
    """All guards of some moves, by rank."""
    guards = [()]
    for move in sorted(tolls):
        guards = guards + [guard + (move,) for guard in guards]
    return [guard for _, _, guard in sorted([(_toll_of(guard, tolls), len(guard), guard) for guard in guards])]


def is_guard(value, source):
    """Whether the value is an ascending tuple of moves of a source."""
    if not isinstance(value, tuple) or not all([is_move(move, source) for move in value]):
        return False
    return is_ascending(value)


def is_move(value, form):
    """Whether the value tells a move of a form."""
    if not isinstance(value, tuple) or len(value) != 2:
        return False
    state, sign = value
    return is_number(state) and 0 <= state < len(form) and is_sign(sign) and sign in form.states[state][0]


def are_tolls(value, source):
    """Whether the value is a dict from moves of a source to integers of at least 0."""
    if not isinstance(value, dict) or not all([is_move(move, source) for move in value]):
        return False
    return all([is_number(toll) and toll >= 0 for toll in value.values()])


def _toll_of(guard, tolls):
    """The sum of the tolls of a guard."""
    return sum([tolls[move] for move in guard])
