"""The greatest cost of the words of a source."""

from mendnumber.base.integers import is_number
from mendnumber.base.prices import check_prices
from mendnumber.base.words import is_word
from mendnumber.core.readers import Reader
from mendnumber.core.tasks import check_sizes, check_treated
from mendnumber.decide.heights import is_table_for
from mendnumber.decide.peaks import Peak
from mendnumber.decide.unfolded import Unfolded
from mendnumber.errors import InvalidOperation
from mendnumber.forms.form import check_form, least_form
from mendnumber.rings.chains import are_bounded, family_of
from mendnumber.rings.families import grows, is_family


def greatest_cost(source, target, prices):
    """The greatest cost of a word of the source, or None if the source and the target are not bounded."""
    check_task(source, target, prices)
    return height_of(source, target, prices)


def dearest_word(source, target, prices):
    """The first word of the source with the greatest cost."""
    check_task(source, target, prices)
    return peak_of(source, target, prices).dearest()


def mend_paper(source, target, prices):
    """A paper that shows the greatest cost, or that there is none."""
    check_task(source, target, prices)
    family = family_of(source, target)
    if family is not None:
        return ("grows", family)
    peak = Peak(source, target, prices)
    return ("bounded", peak.height, peak.dearest(), peak.table())


def is_mend_paper(source, target, prices, value):
    """Whether the value is a paper that shows the greatest cost, or that there is none."""
    check_task(source, target, prices)
    if not isinstance(value, tuple) or not value:
        return False
    if value[0] == "grows":
        return len(value) == 2 and is_family(value[1]) and grows(source.states, target.states, value[1])
    if value[0] != "bounded" or len(value) != 4:
        return False
    _, most, word, table = value
    if not is_number(most) or not is_word(word) or word not in source:
        return False
    reader = Reader(target, prices)
    return reader.word_cost(word) == most and is_table_for(source, reader, most, table)


def cost_limit(source, target, prices):
    """A number that the greatest cost does not exceed, if there is one."""
    check_task(source, target, prices)
    puts = (len(source) + 1) * (len(target) - 1)
    return puts * max(prices.put.values()) + (len(source) - 1) * max(prices.out.values())


def spread(source, target, prices):
    """A dict from all costs of words of the source to the least forms of the words with this cost."""
    check_task(source, target, prices)
    peak = peak_of(source, target, prices)
    unfolded = Unfolded(source, peak.reader, peak.height + 1)
    costs = sorted(set([price for price in unfolded.end_costs if price is not None]))
    return {price: least_form(unfolded.machine_of((price,))) for price in costs}


def is_close(one, other):
    """Whether two forms are bounded in both directions."""
    check_form(one)
    check_form(other)
    check_sizes((one, other))
    return are_close(one, other)


def are_close(one, other):
    """Whether two forms of few states are bounded in both directions."""
    return are_bounded(one, other) and are_bounded(other, one)


def height_of(source, target, prices):
    """The greatest cost for forms and prices that can be treated together, or None."""
    return Peak(source, target, prices).height if are_bounded(source, target) else None


def check_task(source, target, prices):
    """Refuse a source, a target and prices that are none, or that cannot be treated together."""
    check_form(source)
    check_form(target)
    check_prices(prices)
    check_treated((source, target), prices, "")


def peak_of(source, target, prices):
    """The greatest cost, if there is one."""
    if not are_bounded(source, target):
        raise InvalidOperation("the source and the target are not bounded")
    return Peak(source, target, prices)
