"""Which forms and prices can be treated together."""

from mendnumber.base.prices import have_signs
from mendnumber.errors import InvalidOperation, TooMany

MAX_TREATED = 6


def check_treated(forms, prices, signs):
    """Refuse prices that lack one of these signs or of the forms' signs, and then forms with too many states."""
    if not have_signs(prices, signs) or not all([have_signs(prices, form.signs) for form in forms]):
        raise InvalidOperation("a sign has no price")
    check_sizes(forms)


def check_sizes(forms):
    """Refuse forms with too many states."""
    if max([len(form) for form in forms]) > MAX_TREATED:
        raise TooMany(MAX_TREATED)
