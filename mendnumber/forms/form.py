"""Forms: finite machines that have words."""

from mendnumber.base.integers import check_number
from mendnumber.base.words import SIGNS, check_signs, check_word, is_sign, is_word, ordered
from mendnumber.errors import InvalidForm, InvalidOperation, InvalidWord, TooMany
from mendnumber.forms.counts import first_of_length, next_of_length, word_counts
from mendnumber.forms.machines import (
    copied, first_word, has_ring, has_word, is_machine_of_form, least_machine, paired, walked,
)
from mendnumber.forms.nets import mirrored, one_behind_other, repetition

MAX_WRITTEN = 8
MAX_STATES = 40
MAX_LENGTH = 200
MAX_USED = 8


class Built:
    """States of a form that the package has made, which can be more than those that are passed to Form."""

    def __init__(self, machine):
        self.machine = machine


class Form:
    """A deterministic finite machine, each state of which is of use; forms never change."""

    def __init__(self, states):
        if isinstance(states, Built):
            self._states = states.machine
        elif is_machine_of_form(states, MAX_WRITTEN):
            self._states = copied(states)
        else:
            raise InvalidForm("not one to eight states of a form")

    @classmethod
    def of_words(cls, words):
        """The least form that has just the words of a tuple."""
        rest = ordered(words)
        if not rest:
            raise InvalidOperation("there are no words")
        return cls(Built(_machine_of_words(rest)))

    @classmethod
    def all_of(cls, signs):
        """The least form that has all words of these signs."""
        check_signs(signs)
        return cls((({sign: 0 for sign in signs}, True),))

    @property
    def states(self):
        """The states: pairs of a dict of moves, and whether the state is last."""
        return copied(self._states)

    @property
    def signs(self):
        """The ascending tuple of all signs with moves."""
        return tuple(sorted(set([sign for moves, _ in self._states for sign in moves])))

    @property
    def first(self):
        """The first word that the form has."""
        return first_word(self._states)

    def walk(self, word):
        """The states behind the first 0, 1, .. signs of a word, as far as there are moves."""
        check_word(word)
        return walked(self._states, word)

    def words(self, many):
        """Yield all words of at most so many signs that the form has, ascending."""
        check_number(many, 0, MAX_LENGTH)
        counts = word_counts(self._states, many)
        for length in range(many + 1):
            word = first_of_length(self._states, counts, 0, length)
            while word is not None:
                yield word
                word = next_of_length(self._states, counts, 0, word)

    def count(self, many):
        """How many words of just so many signs the form has."""
        check_number(many, 0, MAX_LENGTH)
        return word_counts(self._states, many)[many][0]

    def is_finite(self):
        """Whether the form has finitely many words."""
        return not has_ring(self._states)

    def is_alike(self, other):
        """Whether both forms have the same words."""
        check_form(other)
        return self.least() == other.least()

    def least(self):
        """The form with the same words and the fewest states, which are numbered by their first words."""
        return least_form(self._states)

    def with_move(self, state, sign, to):
        """The form with another move of a state, or without it."""
        last_state = len(self._states) - 1
        check_number(state, 0, last_state)
        if not is_sign(sign):
            raise InvalidWord("not a sign")
        if to is not None:
            check_number(to, 0, last_state)
        moves, last = self._states[state]
        changed = {other: moves[other] for other in moves if other != sign}
        if to is not None:
            changed[sign] = to
        return _with_state(self._states, state, (changed, last))

    def with_last(self, state, last):
        """The form in which a state is last or not."""
        check_number(state, 0, len(self._states) - 1)
        return _with_state(self._states, state, (self._states[state][0], last))

    def repeated(self):
        """The least form of all words that are made of words of the form, and of the empty one."""
        _check_used(self._states)
        return least_form(repetition(self._states))

    def backward(self):
        """The least form of its words, each from the last sign to the first one."""
        _check_used(self._states)
        return least_form(mirrored(self._states))

    def limited(self, signs):
        """The least form of its words of these signs alone."""
        check_signs(signs)
        machine = []
        for moves, last in self._states:
            machine.append(({sign: moves[sign] for sign in moves if sign in signs}, last))
        return least_form(machine)

    def renamed(self, names):
        """The least form of its words with other signs."""
        if not _is_renaming(names, self.signs):
            raise InvalidOperation("not a dict from the signs of the form to different signs")
        machine = []
        for moves, last in self._states:
            machine.append(({names[sign]: moves[sign] for sign in moves}, last))
        return least_form(machine)

    def __or__(self, other):
        _check_operand(other)
        return least_form(paired(self._states, other._states, ((True, True), (True, False), (False, True))))

    def __and__(self, other):
        _check_operand(other)
        return least_form(paired(self._states, other._states, ((True, True),)))

    def __sub__(self, other):
        _check_operand(other)
        return least_form(paired(self._states, other._states, ((True, False),)))

    def __add__(self, other):
        _check_operand(other)
        _check_used(self._states)
        _check_used(other._states)
        return least_form(one_behind_other(self._states, other._states))

    def __ror__(self, other):
        raise InvalidOperation("the other operand is no form")

    def __rand__(self, other):
        raise InvalidOperation("the other operand is no form")

    def __rsub__(self, other):
        raise InvalidOperation("the other operand is no form")

    def __radd__(self, other):
        raise InvalidOperation("the other operand is no form")

    def __contains__(self, value):
        return is_word(value) and has_word(self._states, value)

    def __len__(self):
        return len(self._states)

    def __eq__(self, other):
        return isinstance(other, Form) and self._states == other._states

    def __str__(self):
        return f"form of {len(self._states)} states, {len(self.signs)} signs"


def is_least(value):
    """Whether the value is a form and least."""
    return isinstance(value, Form) and value.least() == value


def check_form(form):
    """Refuse a value that is no form."""
    if not isinstance(form, Form):
        raise InvalidForm("this is no form")


def form_of_machine(machine):
    """The form with these states, which the package has made, or None if they are those of none."""
    return Form(Built(copied(machine))) if is_machine_of_form(machine, MAX_STATES) else None


def least_form(machine):
    """The least form that has the words of a machine."""
    return Form(Built(least_machine(machine, MAX_STATES)))


def form_without(form, moves):
    """The least form of the words of a form that use none of these moves, pairs of a state and a sign, or None."""
    machine = []
    for state, (ways, last) in enumerate(form.states):
        machine.append(({sign: ways[sign] for sign in ways if (state, sign) not in moves}, last))
    return least_form(machine) if first_word(machine) is not None else None


def _machine_of_words(words):
    """The machine of the least form that has just these ascending words."""
    # What can stand behind the signs so far tells the state, so equal rests are one state.
    rests = [words]
    numbers = {words: 0}
    machine = []
    while len(machine) < len(rests):
        rest = rests[len(machine)]
        moves = {}
        for sign in SIGNS:
            ahead = tuple([word[1:] for word in rest if word.startswith(sign)])
            if ahead:
                if ahead not in numbers:
                    numbers[ahead] = len(rests)
                    rests.append(ahead)
                moves[sign] = numbers[ahead]
        if len(rests) > MAX_STATES:
            raise TooMany(MAX_STATES)
        machine.append((moves, rest[0] == ""))
    return tuple(machine)


def _with_state(machine, at, state):
    """The form with another state at an index."""
    form = form_of_machine(machine[:at] + (state,) + machine[at + 1:])
    if form is None:
        raise InvalidForm("these are no states of a form")
    return form


def _is_renaming(value, signs):
    """Whether the value is a dict from just these signs to different signs."""
    if not isinstance(value, dict) or len(value) != len(signs):
        return False
    if not all([sign in value and is_sign(value[sign]) for sign in signs]):
        return False
    return len(set([value[sign] for sign in signs])) == len(signs)


def _check_operand(other):
    """Refuse an operand that is no form."""
    if not isinstance(other, Form):
        raise InvalidOperation("the other operand is no form")


def _check_used(machine):
    """Refuse a form that has too many states for what is made of it."""
    if len(machine) > MAX_USED:
        raise TooMany(MAX_USED)
