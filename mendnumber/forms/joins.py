"""Whether a form has all words of another form."""

from mendnumber.forms.form import check_form
from mendnumber.forms.machines import first_word, paired


def is_within(one, other):
    """Whether `other` has all words of `one`."""
    return first_apart(one, other) is None


def first_apart(one, other):
    """The first word that `one` has and `other` does not have, or None."""
    check_form(one)
    check_form(other)
    return first_word(paired(one.states, other.states, ((True, False),)))
