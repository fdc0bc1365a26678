"""Which values count as integers in the whole package."""

from mendnumber.errors import InvalidNumber

LARGEST = 10 ** 60 - 1


def is_number(value):
    """Whether the value is an integer of at most sixty digits; True and False are none."""
    if isinstance(value, bool) or not isinstance(value, int):
        return False
    return -LARGEST <= value <= LARGEST


def is_number_within(value, least, most):
    """Whether the value is an integer from `least` to `most`."""
    return is_number(value) and least <= value <= most


def check_number(given, least, most):
    """Refuse a value that is not an integer from `least` to `most`."""
    if not is_number_within(given, least, most):
        raise InvalidNumber(given)
