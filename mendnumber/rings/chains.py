"""Whether the costs of all words of a source stay below some number."""

from mendnumber.base.integers import check_number
from mendnumber.base.orders import is_ascending
from mendnumber.core.tasks import check_sizes
from mendnumber.errors import InvalidOperation
from mendnumber.forms.form import check_form
from mendnumber.rings.coverage import Coverage
from mendnumber.rings.families import copied_word, family_along, grows, is_family
from mendnumber.rings.rings import is_one_of

MAX_COPIES = 1000


def is_bounded(source, target):
    """Whether one number is at least the cost of each word of the source."""
    check_ends(source, target)
    return are_bounded(source, target)


def chain_paper(source, target):
    """A chain paper, which shows that the source and the target are bounded."""
    check_ends(source, target)
    coverage = Coverage(source, target)
    groups = {ring: [] for ring in coverage.under}
    for ring, group in _chains(coverage):
        if not group:
            raise InvalidOperation("the source and the target are not bounded")
        groups[ring].append(group)
    return {ring: tuple(sorted(groups[ring])) for ring in groups}


def is_chain_paper(source, target, value):
    """Whether the value is a chain paper for the source and the target."""
    check_ends(source, target)
    coverage = Coverage(source, target)
    if not _is_ring_dict(value, coverage.under):
        return False
    if not all([_are_groups(value[ring], coverage.coverers[ring]) for ring in value]):
        return False
    for ring in value:
        for other in coverage.under[ring]:
            if not all([_has_group_behind(group, value[other], coverage.over) for group in value[ring]]):
                return False
    return True


def growing_family(source, target):
    """A growing family, which shows that the source and the target are not bounded."""
    check_ends(source, target)
    family = family_of(source, target)
    if family is None:
        raise InvalidOperation("the source and the target are bounded")
    return family


def is_growing_family(source, target, value):
    """Whether the value is a growing family for the source and the target."""
    check_ends(source, target)
    return is_family(value) and grows(source.states, target.states, value)


def family_word(family, many):
    """The word of a family with so many copies."""
    if not is_family(family):
        raise InvalidOperation("not the words of a family")
    check_number(many, 0, MAX_COPIES)
    return copied_word(family, many)


def uncovered_chain(source, target):
    """A row of rings of the source, each of which leads to the next one, that no such rings of the target cover."""
    check_ends(source, target)
    chain = _uncovered(Coverage(source, target))
    if chain is None:
        raise InvalidOperation("the source and the target are bounded")
    return chain


def check_ends(source, target):
    """Refuse a source and a target that are no forms, or have too many states."""
    check_form(source)
    check_form(target)
    check_sizes((source, target))


def are_bounded(source, target):
    """Whether a source and a target of few states are bounded."""
    return _uncovered(Coverage(source, target)) is None


def family_of(source, target):
    """A growing family for a source and a target of few states, or None if they are bounded."""
    coverage = Coverage(source, target)
    chain = _uncovered(coverage)
    if chain is None:
        return None
    return family_along(source.states, target.states, chain, coverage)


def _uncovered(coverage):
    """A row of rings of the source that no rings of the target cover, or None."""
    chains = _chains(coverage)
    for place in chains:
        if not place[1]:
            return chains[place]
    return None


def _chains(coverage):
    """The pairs of a ring and a group of rings of the target, each with a row of rings of the source that ends there.

    The group has the rings in which rings of the target end that cover such a row.
    """
    chains = {(ring, coverage.coverers[ring]): (ring,) for ring in coverage.under}
    queue = list(chains)
    at = 0
    while at < len(queue):
        ring, group = queue[at]
        # The same ring again leaves all rings of the group, so it can be passed over.
        for other in [near for near in coverage.under[ring] if near != ring]:
            behind = [to for to in coverage.coverers[other] if _lead_to(group, to, coverage.over)]
            place = (other, tuple(behind))
            if place not in chains:
                chains[place] = chains[queue[at]] + (other,)
                queue.append(place)
        at += 1
    return chains


def _lead_to(group, ring, over):
    """Whether one of these rings leads to a ring."""
    return any([ring in over[near] for near in group])


def _is_ring_dict(value, rings):
    """Whether the value is a dict from just these rings."""
    if not isinstance(value, dict) or len(value) != len(rings):
        return False
    return all([is_one_of(ring, rings) for ring in value])


def _are_groups(value, rings):
    """Whether the value is an ascending tuple of at least one ascending tuple of at least one of these rings."""
    if not isinstance(value, tuple) or not value:
        return False
    for group in value:
        if not isinstance(group, tuple) or not group or not all([is_one_of(ring, rings) for ring in group]):
            return False
    return is_ascending(value) and all([is_ascending(group) for group in value])


def _has_group_behind(group, others, over):
    """Whether the rings of some of the other groups are all such that some ring of a group leads to them."""
    for other in others:
        if all([_lead_to(group, ring, over) for ring in other]):
            return True
    return False
