"""Whether each word of a source costs at most a number."""

from mendnumber.base.integers import check_number
from mendnumber.base.prices import check_prices
from mendnumber.core.readers import Reader
from mendnumber.core.tasks import check_treated
from mendnumber.decide.heights import first_word_above, highest_rows, is_table_for
from mendnumber.decide.unfolded import Unfolded
from mendnumber.errors import InvalidOperation
from mendnumber.forms.form import check_form, least_form

MAX_MOST = 60
MAX_LEVEL = 20


def costs_at_most(source, target, prices, most):
    """Whether each word of the source costs at most so much."""
    _check_question(source, target, prices, most, MAX_MOST)
    return highest_rows(source.states, Reader(target, prices), most) is not None


def first_above(source, target, prices, most):
    """The first word of the source that costs more, or None."""
    _check_question(source, target, prices, most, MAX_MOST)
    reader = Reader(target, prices)
    if highest_rows(source.states, reader, most) is not None:
        return None
    return first_word_above(source.states, reader, most)


def bound_table(source, target, prices, most):
    """A bound table for this number."""
    _check_question(source, target, prices, most, MAX_MOST)
    table = highest_rows(source.states, Reader(target, prices), most)
    if table is None:
        raise InvalidOperation("a word of the source costs more")
    return {state: tuple(sorted(table[state])) for state in sorted(table)}


def is_bound_table(source, target, prices, most, value):
    """Whether the value is a bound table for this number."""
    _check_question(source, target, prices, most, MAX_MOST)
    return is_table_for(source, Reader(target, prices), most, value)


def level_form(source, target, prices, most):
    """The least form of the words of the source that cost at most so much."""
    _check_question(source, target, prices, most, MAX_LEVEL)
    unfolded = Unfolded(source, Reader(target, prices), most + 1)
    return least_form(unfolded.machine_of(list(range(most + 1))))


def _check_question(source, target, prices, most, greatest):
    """Refuse what cannot be asked: wrong kinds first, then forms and prices that cannot be treated together."""
    check_form(source)
    check_form(target)
    check_prices(prices)
    check_number(most, 0, greatest)
    check_treated((source, target), prices, "")
