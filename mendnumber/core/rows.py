"""Rows of a target: for each of its states the cost to lead there."""

from mendnumber.base.integers import check_number, is_number_within
from mendnumber.base.prices import check_prices
from mendnumber.base.words import check_word, is_sign
from mendnumber.core.readers import Reader, cut, is_above
from mendnumber.core.tasks import MAX_TREATED, check_sizes, check_treated
from mendnumber.errors import InvalidOperation, InvalidRow, InvalidWord
from mendnumber.forms.form import check_form

MAX_PASSED = 9999


def is_row(target, value):
    """Whether the value is a row of the target with numbers that can be passed."""
    check_form(target)
    check_sizes((target,))
    return is_row_of(value, len(target), MAX_PASSED)


def start_row(target, prices):
    """The row of the empty word."""
    return row_of(target, prices, "")


def row_of(target, prices, word):
    """The row of a word."""
    check_form(target)
    check_prices(prices)
    check_word(word)
    check_treated((target,), prices, word)
    return Reader(target, prices).rows_along(word)[-1]


def row_behind(target, prices, row, sign):
    """The row behind a row and a sign."""
    check_form(target)
    check_prices(prices)
    _check_row_of(target, row)
    if not is_sign(sign):
        raise InvalidWord("not a sign")
    check_treated((target,), prices, sign)
    return Reader(target, prices).behind(row, sign)


def end_cost(target, row):
    """The least number of a row at last states."""
    check_form(target)
    _check_row_of(target, row)
    return min([number for number, (_, last) in zip(row, target.states) if last])


def cut_row(row, limit):
    """The row with the limit in the place of greater numbers."""
    _check_row(row)
    check_number(limit, 0, MAX_PASSED)
    return cut(row, limit)


def stands_above(one, other):
    """Whether no number of the row `one` is less than that of the row `other`."""
    _check_row(one)
    _check_row(other)
    if len(one) != len(other):
        raise InvalidOperation("rows of unequal lengths")
    return is_above(one, other)


def is_row_of(value, many, most):
    """Whether the value is a tuple of so many integers from 0 to `most`."""
    if not isinstance(value, tuple) or len(value) != many:
        return False
    return all([is_number_within(number, 0, most) for number in value])


def _check_row(row):
    """Refuse a value that is no row of any target that can be treated."""
    if not isinstance(row, tuple) or not 1 <= len(row) <= MAX_TREATED or not is_row_of(row, len(row), MAX_PASSED):
        raise InvalidRow("not a row")


def _check_row_of(target, row):
    """Refuse a value that is no row of a target."""
    _check_row(row)
    if len(row) != len(target):
        raise InvalidRow("not a row of this form")
