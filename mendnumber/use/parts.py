"""What can be left out of sources, targets and prices."""

from mendnumber.base.integers import check_number
from mendnumber.base.prices import check_prices
from mendnumber.core.tasks import check_sizes, check_treated
from mendnumber.decide.greatest import are_close, check_task, height_of
from mendnumber.decide.tables import MAX_MOST
from mendnumber.errors import InvalidForm, InvalidOperation, TooMany
from mendnumber.forms.form import Form, check_form, form_without
from mendnumber.use.guards import Guarding, are_tolls, is_guard, ranked_guards

MAX_LISTED = 8
MAX_TOLLS = 6


def without_moves(form, moves):
    """The least form of the words of a form that use none of these moves, or None."""
    check_form(form)
    if not is_guard(moves, form):
        raise InvalidOperation("not an ascending tuple of moves of the form")
    return form_without(form, moves)


def spare_moves(source, target, prices):
    """The moves of the target without which, each alone, the greatest cost is the same."""
    check_task(source, target, prices)
    height = height_of(source, target, prices)
    spare = []
    for state, (moves, _) in enumerate(target.states):
        for sign in moves:
            left = form_without(target, ((state, sign),))
            if left is not None and height_of(source, left, prices) == height:
                spare.append((state, sign))
    return tuple(spare)


def spare_swaps(source, target, prices):
    """The swaps of the prices without which, each alone, the greatest cost is the same."""
    check_task(source, target, prices)
    height = height_of(source, target, prices)
    swaps = prices.swap
    return tuple([
        pair for pair in swaps if height_of(source, target, prices.with_price(("swap", *pair), None)) == height
    ])


def cheapest_guard(source, target, prices, tolls, most=None):
    """The first guard by rank that is enough, or None."""
    _check_guarding(source, target, prices, tolls, most)
    return _first_enough(Guarding(source, target, prices, most), tolls)


def guard_paper(source, target, prices, tolls, most=None):
    """The first guard by rank that is enough, or None, and the reasons why those of lower rank are not."""
    _check_guarding(source, target, prices, tolls, most)
    guarding = Guarding(source, target, prices, most)
    found = _first_enough(guarding, tolls)
    return (found, {guard: guarding.reason(guard) for guard in sorted(_guards_ahead(found, tolls))})


def is_guard_paper(source, target, prices, tolls, value, most=None):
    """Whether the value is the first guard that is enough, or None, with reasons why those of lower rank are not."""
    _check_guarding(source, target, prices, tolls, most)
    if not isinstance(value, tuple) or len(value) != 2 or not isinstance(value[1], dict):
        return False
    found, reasons = value
    if found is not None and not (is_guard(found, source) and all([move in tolls for move in found])):
        return False
    ahead = _guards_ahead(found, tolls)
    if len(reasons) != len(ahead) or not all([is_guard(guard, source) and guard in ahead for guard in reasons]):
        return False
    guarding = Guarding(source, target, prices, most)
    if found is not None and not guarding.is_enough(found):
        return False
    return all([guarding.is_reason(guard, reasons[guard]) for guard in reasons])


def close_classes(forms):
    """The classes of forms that are bounded in both directions, as tuples of their indices."""
    _check_forms(forms)
    check_sizes(forms)
    classes = []
    for at, form in enumerate(forms):
        near = [group for group in classes if are_close(forms[group[0]], form)]
        if near:
            near[0].append(at)
        else:
            classes.append([at])
    return tuple([tuple(group) for group in classes])


def best_target(source, targets, prices):
    """The first index of a target to which the greatest cost is least, or None if there is none for any."""
    check_form(source)
    _check_forms(targets)
    check_prices(prices)
    check_treated((source, *targets), prices, "")
    heights = [(height_of(source, target, prices), at) for at, target in enumerate(targets)]
    return min([pair for pair in heights if pair[0] is not None], default=(0, None))[1]


def _first_enough(guarding, tolls):
    """The first guard by rank that is enough, or None."""
    for guard in ranked_guards(tolls):
        if guarding.is_enough(guard):
            return guard
    return None


def _guards_ahead(found, tolls):
    """The guards of lower rank than this one, or all for None."""
    guards = ranked_guards(tolls)
    return guards if found is None else guards[:guards.index(found)]


def _check_guarding(source, target, prices, tolls, most):
    """Refuse what no guards can be found for: wrong kinds first, then what cannot be treated."""
    check_form(source)
    check_form(target)
    check_prices(prices)
    if not are_tolls(tolls, source):
        raise InvalidOperation("not a dict from moves of the source to integers of at least 0")
    if most is not None:
        check_number(most, 0, MAX_MOST)
    check_treated((source, target), prices, "")
    if len(tolls) > MAX_TOLLS:
        raise TooMany(MAX_TOLLS)


def _check_forms(forms):
    """Refuse a value that is not a tuple of one to eight forms."""
    if not isinstance(forms, tuple) or not 1 <= len(forms) <= MAX_LISTED:
        raise InvalidForm("not a tuple of one to eight forms")
    if not all([isinstance(form, Form) for form in forms]):
        raise InvalidForm("not a tuple of forms")
