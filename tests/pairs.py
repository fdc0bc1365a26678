"""Pairs of sources and targets that the tests share, with prices."""

import random

from mendnumber.base.prices import Prices
from mendnumber.errors import InvalidForm
from mendnumber.forms.form import Form
from mendnumber.forms.patterns import read_pattern
from values import AHEAD, ANY, ONE, PAIRS, SLOW, THREES, some_forms

FIVE = Prices.even(("a", "b", "c", "d", "e"))
FORK = Form((({"a": 0, "b": 1, "c": 2}, True), ({"b": 1}, True), ({"c": 2}, True)))
LATE = read_pattern("da*b*|ea*c*")
ROUGH = Prices(
    put={"a": 3, "b": 9, "c": 1, "d": 4, "e": 5}, out={"a": 2, "b": 1, "c": 9, "d": 7, "e": 1},
    swap={("a", "b"): 1, ("c", "d"): 14, ("d", "a"): 2, ("e", "c"): 6},
)
EMPTY = Form((({}, True),))
LINE = Form.of_words(("abc", "ab"))
SIX = Form(tuple(({"a": (at + 1) % 6}, at == 0) for at in range(6)))
FIVES = Form(tuple(({"a": (at + 1) % 5, "b": at}, at == 3) for at in range(5)))
# Rings behind one another, some of one state, and one to which two others lead.
ROWS = Form((({"a": 0, "b": 1}, True), ({"b": 1, "c": 2}, False), ({"a": 3}, False), ({"c": 2, "b": 4}, True),
             ({"a": 4, "c": 4}, True)))
WIDE = Form((({"a": 0, "b": 0, "c": 1}, False), ({"a": 1, "b": 2, "c": 2}, True), ({"a": 2, "b": 2, "c": 2}, True)))


def known_pairs():
    forms = [ANY, PAIRS, THREES, AHEAD, FORK, LATE, EMPTY, LINE, SIX, FIVES, ROWS, WIDE]
    return [(one, other) for one in forms for other in forms]


def leaning_form(chance):
    """A form in which many states have moves to themselves and the others lead on."""
    while True:
        many, signs = chance.randint(2, 5), "abc"[:chance.randint(1, 3)]
        states = []
        for at in range(many):
            moves = {sign: at if chance.random() < 0.5 else chance.randrange(at, many) for sign in signs
                     if chance.random() < 0.7}
            states.append((moves, at == many - 1 or chance.random() < 0.4))
        try:
            return Form(tuple(states))
        except InvalidForm:
            pass


def some_pairs():
    """Pairs of forms of at most six states; some are bounded, others are not."""
    chance = random.Random(77)
    forms = [form for form in some_forms() if len(form) <= 6]
    found = known_pairs() + list(zip(forms, forms[7:] + forms[:7])) + [(form, form) for form in forms[6:20]]
    leaning = [leaning_form(chance) for _ in range(60)]
    return found + list(zip(leaning[:30], leaning[30:]))


def some_triples(step=1):
    """The same with prices for all signs."""
    pairs = some_pairs()
    return [(source, target, (FIVE, ROUGH)[at % 2]) for at, (source, target) in enumerate(pairs)][::step]
