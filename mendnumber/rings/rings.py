"""The parts and rings of forms."""

from mendnumber.base.integers import check_number, is_number
from mendnumber.base.words import is_word
from mendnumber.core.tasks import check_sizes
from mendnumber.errors import InvalidOperation, InvalidWord
from mendnumber.forms.counts import first_of_length, next_of_length, word_counts
from mendnumber.forms.form import check_form
from mendnumber.forms.machines import first_word, paired
from mendnumber.forms.nets import determined

MAX_LOOP = 12


class Rings:
    """The parts and rings of a form; they never change."""

    def __init__(self, form):
        check_form(form)
        self._form = form
        states = form.states
        self._reached = [_reached_from(states, state) for state in range(len(states))]
        self._parts = _parts_of(self._reached)
        self._rings = tuple([part for part in self._parts if _has_move_inside(states, part)])

    @property
    def form(self):
        """The form."""
        return self._form

    @property
    def parts(self):
        """The ascending tuple of all parts."""
        return self._parts

    @property
    def rings(self):
        """The ascending tuple of all rings."""
        return self._rings

    @property
    def longest(self):
        """The greatest number of different parts, each of which leads to the next one."""
        longest = {}
        # A part reaches more states than each other part to which it leads.
        for _, part in sorted([(len(self._reached[part[0]]), part) for part in self._parts]):
            behind = [longest[other] for other in longest if other[0] in self._reached[part[0]]]
            longest[part] = 1 + max(behind, default=0)
        return max(longest.values())

    def part_of(self, state):
        """The part with this state."""
        check_number(state, 0, len(self._form) - 1)
        return [part for part in self._parts if state in part][0]

    def leads(self, one, other):
        """Whether a word leads from a state of a part to a state of the other one."""
        _check_part(one, self._parts)
        _check_part(other, self._parts)
        return other[0] in self._reached[one[0]]

    def reads(self, ring, word):
        """Whether a word, which can be of any length, is a piece of a ring."""
        _check_part(ring, self._rings)
        if not is_word(word):
            raise InvalidWord("not a word")
        states = self._form.states
        group = ring
        for sign in word:
            group = sorted(set([states[state][0][sign] for state in group if states[state][0].get(sign) in ring]))
        return len(group) > 0

    def loops(self, state, many):
        """Yield all words of one to so many signs that lead from a state to itself, ascending."""
        check_number(state, 0, len(self._form) - 1)
        check_number(many, 0, MAX_LOOP)
        machine = [(moves, at == state) for at, (moves, _) in enumerate(self._form.states)]
        counts = word_counts(machine, many)
        for length in range(1, many + 1):
            word = first_of_length(machine, counts, state, length)
            while word is not None:
                yield word
                word = next_of_length(machine, counts, state, word)

    def __len__(self):
        return len(self._rings)

    def __getitem__(self, index):
        check_number(index, 0, len(self._rings) - 1)
        return self._rings[index]

    def __iter__(self):
        return iter(self._rings)

    def __contains__(self, value):
        return is_one_of(value, self._rings)

    def __eq__(self, other):
        return isinstance(other, Rings) and self._form == other._form

    def __str__(self):
        return f"{len(self._rings)} rings, {len(self._parts)} parts"


def covers(target, over, source, under):
    """Whether a ring of the target has all pieces of a ring of the source."""
    return lacking_piece(target, over, source, under) is None


def lacking_piece(target, over, source, under):
    """The first piece of a ring of the source that is no piece of a ring of the target, or None."""
    _check_part(over, Rings(target).rings)
    _check_part(under, Rings(source).rings)
    check_sizes((target, source))
    return first_word(paired(piece_machine(source, under), piece_machine(target, over), ((True, False),)))


def piece_machine(form, ring):
    """The machine that has the pieces of a ring."""
    states = form.states
    numbers = {state: at for at, state in enumerate(ring)}
    net = []
    for state in ring:
        moves = states[state][0]
        net.append({sign: (numbers[moves[sign]],) for sign in moves if moves[sign] in numbers})
    places = tuple(range(len(ring)))
    return determined(net, places, places)


def _reached_from(states, start):
    """A dict with the states to which words lead from a state."""
    found = {start: True}
    queue = [start]
    while queue:
        moves = states[queue.pop()][0]
        for to in moves.values():
            if to not in found:
                found[to] = True
                queue.append(to)
    return found


def _parts_of(reached):
    """The ascending tuple of all parts, by what is reached from each state."""
    parts = []
    for at, others in enumerate(reached):
        parts.append(tuple(sorted([other for other in others if at in reached[other]])))
    return tuple(sorted(set(parts)))


def _has_move_inside(states, part):
    """Whether a move leads from a state of a part to a state of it."""
    return any([to in part for state in part for to in states[state][0].values()])


def is_one_of(value, parts):
    """Whether the value is one of these parts, which are a tuple or the keys of a dict."""
    return isinstance(value, tuple) and all([is_number(state) for state in value]) and value in parts


def _check_part(value, parts):
    """Refuse a value that is not one of these parts."""
    if not is_one_of(value, parts):
        raise InvalidOperation("not a part or ring of this form")
