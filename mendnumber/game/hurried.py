"""What changes cost that are made while a word is read."""

from mendnumber.base.integers import check_number
from mendnumber.base.orders import is_ascending
from mendnumber.base.prices import check_prices
from mendnumber.core.tasks import check_treated
from mendnumber.errors import InvalidOperation
from mendnumber.forms.form import check_form
from mendnumber.game.arena import Arena
from mendnumber.game.papers import is_none_paper, is_number_paper, none_paper, number_paper
from mendnumber.game.sums import Sums
from mendnumber.rings.chains import check_ends
from mendnumber.rings.coverage import Coverage
from mendnumber.rings.rings import is_one_of

MAX_AHEAD = 2


def is_hurriable(source, target):
    """Whether there is a ring paper."""
    check_ends(source, target)
    return _ring_pairs(source, target) is not None


def ring_paper(source, target):
    """A ring paper, which shows that there are hurried numbers."""
    check_ends(source, target)
    pairs = _ring_pairs(source, target)
    if pairs is None:
        raise InvalidOperation("there is no hurried number")
    return pairs


def is_ring_paper(source, target, value):
    """Whether the value is a ring paper."""
    check_ends(source, target)
    coverage = Coverage(source, target)
    if not isinstance(value, tuple) or not all([_is_pair_among(pair, coverage) for pair in value]):
        return False
    if not is_ascending(value) or not _is_whole(value, coverage):
        return False
    return all([_goes_on(pair, value, coverage) for pair in value])


def hurried_number(source, target, prices, *, ahead=0):
    """The least number that some hurried mender never exceeds, or None."""
    check_hurry(source, target, prices, ahead)
    sums = sums_of(source, target, prices, ahead)
    return None if sums is None else sums.number


def hurried_paper(source, target, prices, *, ahead=0):
    """A paper that shows the hurried number, or that there is none."""
    check_hurry(source, target, prices, ahead)
    sums = sums_of(source, target, prices, ahead)
    return none_paper(Arena(source, target, prices, ahead)) if sums is None else number_paper(sums)


def is_hurried_paper(source, target, prices, value, *, ahead=0):
    """Whether the value is a paper that shows the hurried number, or that there is none."""
    check_hurry(source, target, prices, ahead)
    if not isinstance(value, tuple) or not value:
        return False
    arena = Arena(source, target, prices, ahead)
    if value[0] == "number":
        return is_number_paper(arena, value)
    return value[0] == "none" and is_none_paper(arena, value)


def check_hurry(source, target, prices, ahead):
    """Refuse what no hurried mender can be made for: wrong kinds first, then what cannot be treated together."""
    check_form(source)
    check_form(target)
    check_prices(prices)
    check_number(ahead, 0, MAX_AHEAD)
    check_treated((source, target), prices, "")


def sums_of(source, target, prices, ahead):
    """What hurried menders have to pay, or None if there is no hurried number."""
    if _ring_pairs(source, target) is None:
        return None
    return Sums(Arena(source, target, prices, ahead))


def _ring_pairs(source, target):
    """The ring paper with the most pairs, or None if there is none."""
    coverage = Coverage(source, target)
    pairs = [(ring, other) for ring in coverage.under for other in coverage.coverers[ring]]
    kept = [pair for pair in pairs if _goes_on(pair, pairs, coverage)]
    while len(kept) < len(pairs):
        pairs = kept
        kept = [pair for pair in pairs if _goes_on(pair, pairs, coverage)]
    return tuple(pairs) if _is_whole(pairs, coverage) else None


def _is_whole(pairs, coverage):
    """Whether each ring of the source is in some pair."""
    return all([any([pair[0] == ring for pair in pairs]) for ring in coverage.under])


def _goes_on(pair, pairs, coverage):
    """Whether for each ring to which the one of the source leads, some pair has it and one to which the other leads."""
    behind = [ring for ring, to in pairs if to in coverage.over[pair[1]]]
    return all([ring in behind for ring in coverage.under[pair[0]]])


def _is_pair_among(value, coverage):
    """Whether the value is a pair of a ring of the source and a ring of the target that covers it."""
    if not isinstance(value, tuple) or len(value) != 2:
        return False
    return is_one_of(value[0], coverage.under) and is_one_of(value[1], coverage.coverers[value[0]])
