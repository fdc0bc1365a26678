"""Machines: states as in forms, but perhaps such that are of no use.

A machine is a tuple or list of pairs (moves, last) like the states of a form. Operators of forms run this code, so it
changes nothing but what it makes itself.
"""

from mendnumber.base.integers import is_number_within
from mendnumber.base.words import SIGNS, is_sign
from mendnumber.errors import InvalidOperation, TooMany


def is_machine_of_form(value, most):
    """Whether the value is a tuple of one to so many states as a form has them."""
    if not isinstance(value, tuple) or not 1 <= len(value) <= most:
        return False
    if not all([_is_state(state, len(value)) for state in value]):
        return False
    return len(useful_states(value)) == len(value)


def copied(machine):
    """A copy of a machine, with ascending moves."""
    return tuple([({sign: moves[sign] for sign in sorted(moves)}, last) for moves, last in machine])


def first_words(machine, start=0):
    """The first words that lead from a state to states, by states; both are in the order of these words."""
    found = {start: ""}
    queue = [start]
    at = 0
    while at < len(queue):
        state = queue[at]
        moves = machine[state][0]
        for sign in sorted(moves):
            to = moves[sign]
            if to not in found:
                found[to] = found[state] + sign
                queue.append(to)
        at += 1
    return found


def first_word(machine, start=0):
    """The first word that leads from a state to a last one, or None if there is none."""
    found = first_words(machine, start)
    for state in found:
        if machine[state][1]:
            return found[state]
    return None


def useful_states(machine):
    """The states that stand between state 0 and a last state, in the order of the first words that lead to them."""
    ending = _states_ahead_of_last(machine)
    return [state for state in first_words(machine) if state in ending]


def least_machine(machine, most):
    """The machine of the least form with the same words, if it has at most so many states."""
    useful = useful_states(machine)
    if not useful:
        raise InvalidOperation("there are no words")
    classes = _classes(machine, useful, most)
    least = []
    for state in useful:
        # The first state of a class stands for it, so the classes have the order of their first words.
        if classes[state] == len(least):
            moves, last = machine[state]
            kept = [sign for sign in sorted(moves) if moves[sign] in classes]
            least.append(({sign: classes[moves[sign]] for sign in kept}, last))
    return tuple(least)


def paired(one, other, kinds):
    """The machine that reads words in two machines at once.

    Its last states are those where the pair of "last in the one" and "last in the other one" is one of the kinds.
    """
    pairs = [(0, 0)]
    numbers = {(0, 0): 0}
    machine = []
    while len(machine) < len(pairs):
        near, far = pairs[len(machine)]
        moves = {}
        for sign in SIGNS:
            pair = (_state_at(one, near, sign), _state_at(other, far, sign))
            if pair != (None, None):
                if pair not in numbers:
                    numbers[pair] = len(pairs)
                    pairs.append(pair)
                moves[sign] = numbers[pair]
        machine.append((moves, (_is_last(one, near), _is_last(other, far)) in kinds))
    return machine


def walked(machine, word, start=0):
    """The states from a state on behind the first 0, 1, .. signs of a word, as far as there are moves."""
    states = [start]
    for sign in word:
        to = _state_at(machine, states[-1], sign)
        if to is None:
            return tuple(states)
        states.append(to)
    return tuple(states)


def has_word(machine, word):
    """Whether a machine has a word."""
    states = walked(machine, word)
    return len(states) == len(word) + 1 and machine[states[-1]][1]


def has_ring(machine):
    """Whether a state can be reached from itself, if all states can be reached from state 0."""
    level = [0]
    for _ in range(len(machine)):
        level = sorted(set([to for state in level for to in machine[state][0].values()]))
    # A word with as many signs as there are states comes to some state twice.
    return len(level) > 0


def _is_state(value, many):
    """Whether the value is a state of a machine with so many states."""
    if not isinstance(value, tuple) or len(value) != 2:
        return False
    moves, last = value
    if not isinstance(moves, dict) or not isinstance(last, bool):
        return False
    return all([is_sign(sign) and is_number_within(moves[sign], 0, many - 1) for sign in moves])


def _state_at(machine, state, sign):
    """The state behind a state and a sign, or None; None has no moves."""
    return None if state is None else machine[state][0].get(sign)


def _is_last(machine, state):
    """Whether a state is last; None is not."""
    return state is not None and machine[state][1]


def _states_ahead_of_last(machine):
    """A dict with the states from which words lead to last ones."""
    near = [() for _ in machine]
    for state, (moves, _) in enumerate(machine):
        for sign in moves:
            near[moves[sign]] = near[moves[sign]] + (state,)
    queue = [state for state, (_, last) in enumerate(machine) if last]
    found = {}
    for state in queue:
        found[state] = True
    at = 0
    while at < len(queue):
        here = queue[at]
        for state in near[here]:
            if state not in found:
                found[state] = True
                queue.append(state)
        at += 1
    return found


def _classes(machine, useful, most):
    """The numbers of the useful states, equal for those from which the same words lead to last states."""
    classes = {state: 0 for state in useful}
    many = 1
    while True:
        kinds = {}
        found = {}
        for state in useful:
            moves, last = machine[state]
            ways = tuple([(sign, classes[moves[sign]]) for sign in sorted(moves) if moves[sign] in classes])
            found[state] = kinds.setdefault((last, ways), len(kinds))
        # Classes are only ever divided, so there is no need to go on with too many of them.
        if len(kinds) > most:
            raise TooMany(most)
        if len(kinds) == many:
            return found
        classes = found
        many = len(kinds)
