"""Values that the tests share."""

import random

from mendnumber.base.prices import Prices
from mendnumber.errors import InvalidForm
from mendnumber.forms.form import Form

SIXTY_DIGITS = 10 ** 60 - 1
SIXTY_ONE_DIGITS = 10 ** 60
HUNDRED_DIGITS = 10 ** 100 - 1

SLOW = Prices(put={"a": 9, "b": 1}, out={"a": 2, "b": 9}, swap={("b", "a"): 1})
ONE = Prices.even(("a", "b"))

ANY = Form((({"a": 0}, True),))
PAIRS = Form((({"a": 1}, True), ({"b": 0}, False)))
THREES = Form((({"a": 1}, True), ({"a": 2}, False), ({"a": 0}, False)))
AHEAD = Form((({"a": 0, "b": 1}, True), ({"b": 1}, True)))
# Five signs and eight states, in a ring; together with a ring of five states it makes forty states.
EIGHTS = Form(tuple(({sign: (at + 1) % 8 for sign in "abcde"}, at == 0) for at in range(8)))
FIVES = Form(tuple(({sign: (at + 1) % 5 for sign in "abcde"}, at == 0) for at in range(5)))

# Values that are no ascending tuple of at least one sign.
WRONG_SIGNS = [
    None, True, 1, "a", "ab", ["a"], {"a": 1}, (), ("b", "a"), ("a", "a"), ("a", "c", "b"), ("f",), ("",), ("ab",),
    ("A",), ("a", 1), ("a", None), (("a",),), (["a"],), ({},), ("a", "b", "c", "d", "e", "f"), ("a\n",), "x" * 9000,
]


def nested(depth):
    """Tuples, lists and dicts around an integer, so many deep."""
    value = 7
    for level in range(depth):
        value = [(value,), [value, None], {"a": value, ("b", level): True}][level % 3]
    return value


def odd_values():
    """Values of all kinds that can be passed; nearly everything refuses all of them."""
    return [
        None, True, False, 0, -1, 100, SIXTY_DIGITS, SIXTY_ONE_DIGITS, -HUNDRED_DIGITS,
        "", "a", "A", "f", " ", "\n", "a\n", "put", "swap", "x" * 9000, "a" * 9000,
        (), ("a",), ("put",), ("f",), ("b", "a"), ("a", "a"), ("a", 1), ("a", None), ((),), (("a",),),
        ("put", "f"), ("put", ["a"]), ("swap", "a"), ("swap", {"a": 1}, "b"), (SLOW, "a"), (["put"], "a"),
        [], ["a"], ["put", "a"], [[[]]], {}, {"a": 1}, {1: "a"}, {("a", "b"): 1}, {None: None}, {True: ()},
        nested(3), nested(8), SLOW, [SLOW], {"a": SLOW}, PAIRS, (PAIRS,), {"a": PAIRS}, PAIRS.states,
        ("put", 0, "a"), (("put", 0, "a"),), (("out", 0),), ((0, 0),), (0, 1), (0, True), {0: ((0, 1),)},
    ]


def odd_values_but(*valid):
    """The odd values without those that are equal to one of these and of the same kind."""
    return [value for value in odd_values() if not any(type(value) is type(one) and value == one for one in valid)]


def near(value):
    """Values that differ from a value in one place: spoilt, doubled, left out, exchanged, or of another kind."""
    if isinstance(value, bool):
        return [not value, int(value), None]
    if isinstance(value, int):
        found = [value + 1, value - 1, None, str(value), (value,), 10 ** 60 + value]
        return found + [bool(value)] if value in (0, 1) else found
    if isinstance(value, str):
        return [value + "a", value[:-1], value[::-1], "b" + value[1:], "f" + value, None, 0, (value,), value.upper()]
    if value is None:
        return [0, False, "", ()]
    if isinstance(value, dict):
        return near_dicts(value)
    found = [list(value), None, value + (value,), {at: one for at, one in enumerate(value)}]
    for at, one in enumerate(value):
        found.append(value[:at] + value[at + 1:])
        found.append(value[:at] + (one, one) + value[at + 1:])
        found.append(value[:at] + value[at:at + 2][::-1] + value[at + 2:])
        found.extend(value[:at] + (other,) + value[at + 1:] for other in near(one))
    return found


def near_dicts(value):
    """The same for a dict."""
    found = [list(value.items()), tuple(value.items()), None]
    for key, one in value.items():
        rest = {other: value[other] for other in value if other != key}
        found.append(rest)
        found.extend({**rest, key: other} for other in near(one))
        found.extend({**rest, other: one} for other in near(key) if hashable(other) and other not in rest)
        found.extend({**value, other: one} for other in near(key) if hashable(other) and other not in value)
    return found


def hashable(value):
    try:
        hash(value)
    except TypeError:
        return False
    return True


def some_forms():
    """Forms of many kinds, of one to eight states, the same ones in each run."""
    chance = random.Random(5)
    found = [ANY, PAIRS, THREES, AHEAD, Form((({}, True),)), Form((({"e": 1}, False), ({}, True)))]
    while len(found) < 60:
        many = chance.randint(1, 8)
        signs = chance.sample("abcde", chance.choice((1, 2, 2, 2, 3)))
        states = []
        for _ in range(many):
            moves = {sign: chance.randrange(many) for sign in signs if chance.random() < 0.6}
            states.append((moves, chance.random() < 0.4))
        try:
            found.append(Form(tuple(states)))
        except InvalidForm:
            pass
    return found


def words_of(states, longest):
    """All words of at most so many signs that states have, in order, found by going through all states and signs."""
    found, level = [], [("", 0)]
    for _ in range(longest + 1):
        found.extend(word for word, state in level if states[state][1])
        level = [
            (word + sign, states[state][0][sign])
            for word, state in level for sign in "abcde" if sign in states[state][0]
        ]
    return found


def some_prices():
    """Prices of many kinds, the same ones in each run."""
    chance = random.Random(20)
    found = [SLOW, ONE, Prices.even(("c",), 9), Prices.even(tuple("abcde"), 4)]
    for count in (1, 2, 3, 3, 4, 5, 5):
        for share in (0.2, 0.6, 1):
            signs = sorted(chance.sample("abcde", count))
            pairs = [(one, other) for one in signs for other in signs if one != other]
            found.append(Prices(
                put={sign: chance.randint(1, 9) for sign in signs},
                out={sign: chance.randint(1, 9) for sign in signs},
                swap={pair: chance.randint(1, 18) for pair in pairs if chance.random() < share},
            ))
    return found

