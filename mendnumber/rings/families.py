"""Growing families of words."""

from mendnumber.base.words import is_word
from mendnumber.forms.machines import first_word, first_words, walked
from mendnumber.rings.coverage import unread_word
from mendnumber.rings.groups import behind_word, group_of, reached, steps_inside, steps_of_machine


def is_family(value):
    """Whether the value is a tuple of three, five, seven, .. words with no empty word at an odd index."""
    if not isinstance(value, tuple) or len(value) < 3 or len(value) & 1 == 0:
        return False
    return all([is_word(word) for word in value]) and "" not in value[1::2]


def copied_word(family, many):
    """The word of a family with so many copies."""
    return "".join([word * many if at & 1 == 1 else word for at, word in enumerate(family)])


def grows(source, target, family):
    """Whether the words of a family are words of the source's machine and cannot all be near words of the target's."""
    return _loops_in(source, family) and _gets_stuck_in(target, family)


def family_along(source, target, chain, coverage):
    """A growing family that goes along a row of rings of the source, which rings of the target cannot cover."""
    turns = [_telling_loop(source, target, ring, coverage) for ring in chain]
    ways = _ways_along(source, chain)
    many = 1
    # A loop with more copies than the target has parts in a row is somewhere read inside one ring.
    while not grows(source, target, _family(ways, turns, many)):
        many += 1
    return _family(ways, turns, many)


def _loops_in(machine, family):
    """Whether the odd words of a family lead back to the states ahead of them, and all of it is a word of a machine."""
    state = 0
    for at, word in enumerate(family):
        states = walked(machine, word, state)
        if len(states) <= len(word):
            return False
        if at & 1 == 1 and states[-1] != state:
            return False
        state = states[-1]
    return machine[state][1]


def _gets_stuck_in(machine, family):
    """Whether a machine cannot read the odd words of a family one behind the other, with any words between them."""
    steps = steps_of_machine(machine)
    group = group_of(list(range(len(machine))))
    for word in family[1::2]:
        group = reached(steps, behind_word(steps, group, word))
    return group == 0


def _telling_loop(source, target, ring, coverage):
    """A word from the first state of a ring back to it that no ring has as a piece that does not cover this ring."""
    others = [other for other in coverage.over if other not in coverage.coverers[ring]]
    states = [state for other in others for state in other]
    word = unread_word(source, ring, steps_inside(target, others), group_of(states))
    if word == "":
        moves = source[ring[0]][0]
        word = min([sign for sign in moves if moves[sign] in ring])
    return word + first_words(source, walked(source, word, ring[0])[-1])[ring[0]]


def _ways_along(machine, chain):
    """The first words from state 0 to the first ring of a row, from each to the next one, and to a last state."""
    ways = []
    state = 0
    for ring in chain:
        ways.append(first_words(machine, state)[ring[0]])
        state = ring[0]
    return ways + [first_word(machine, state)]


def _family(ways, turns, many):
    """The family of these words, with so many copies of each loop."""
    family = [ways[0]]
    for loop, way in zip(turns, ways[1:]):
        family.append(loop * many)
        family.append(way)
    return tuple(family)
