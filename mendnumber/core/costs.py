"""What it costs to change words into words of a target."""

from mendnumber.base.changes import changes_between, price_of_steps, steps_of, word_behind
from mendnumber.base.integers import check_number
from mendnumber.base.prices import check_prices
from mendnumber.base.words import check_word
from mendnumber.core.nearest import Nearest
from mendnumber.core.places import Places, ends_of_mending
from mendnumber.core.readers import Reader
from mendnumber.core.tasks import check_treated
from mendnumber.errors import TooMany
from mendnumber.forms.form import check_form

MAX_NEAREST = 20
MAX_LISTED = 5


def cost(word, target, prices):
    """The cost of a word to the target."""
    _check_word_to(word, target, prices)
    return Reader(target, prices).word_cost(word)


def nearest_words(word, target, prices):
    """Yield all words of the target whose cost from the word is its cost to the target, ascending."""
    near = _nearest(word, target, prices)
    for length in near.lengths():
        found = near.first_of_length(length)
        while found is not None:
            yield found
            found = near.next_of_length(found)


def nearest(word, target, prices):
    """The first of the nearest words."""
    near = _nearest(word, target, prices)
    return near.first_of_length(near.lengths()[0])


def mending(word, target, prices):
    """A row of changes of least price that makes a word of the target of the word."""
    _check_word_to(word, target, prices)
    return changes_between(ends_of_mending(Places(word, target, prices)), prices)


def is_mending(word, target, prices, value):
    """Whether the value is a row of changes of least price that makes a word of the target of the word."""
    _check_word_to(word, target, prices)
    steps = steps_of(word, value)
    if steps is None or word_behind(word, steps) not in target:
        return False
    return price_of_steps(steps, prices) == Reader(target, prices).word_cost(word)


def costs_by(source, target, prices, *, many):
    """A dict from all words of the source of at most so many signs to their costs."""
    check_form(source)
    check_form(target)
    check_prices(prices)
    check_number(many, 0, MAX_LISTED)
    check_treated((source, target), prices, "")
    reader = Reader(target, prices)
    return {word: reader.word_cost(word) for word in source.words(many)}


def _check_word_to(word, target, prices):
    """Refuse what is no word, target and prices that can be treated together."""
    check_word(word)
    check_form(target)
    check_prices(prices)
    check_treated((target,), prices, word)


def _nearest(word, target, prices):
    """The nearest words, ready to be told."""
    _check_word_to(word, target, prices)
    if len(word) > MAX_NEAREST:
        raise TooMany(MAX_NEAREST)
    return Nearest(Places(word, target, prices))
