"""Values that the tests share."""

import random

from mendnumber.base.prices import Prices

SIXTY_DIGITS = 10 ** 60 - 1
SIXTY_ONE_DIGITS = 10 ** 60
HUNDRED_DIGITS = 10 ** 100 - 1

SLOW = Prices(put={"a": 9, "b": 1}, out={"a": 2, "b": 9}, swap={("b", "a"): 1})
ONE = Prices.even(("a", "b"))

# Values that are no ascending tuple of at least one sign.
WRONG_SIGNS = [
    None, True, 1, "a", "ab", ["a"], {"a": 1}, (), ("b", "a"), ("a", "a"), ("a", "c", "b"), ("f",), ("",), ("ab",),
    ("A",), ("a", 1), ("a", None), (("a",),), (["a"],), ({},), ("a", "b", "c", "d", "e", "f"), ("a\n",), "x" * 9000,
]


def nested(depth):
    """Tuples, lists and dicts around an integer, so many deep."""
    value = 7
    for level in range(depth):
        value = [(value,), [value, None], {"a": value, ("b", level): True}][level % 3]
    return value


def odd_values():
    """Values of all kinds that can be passed; nearly everything refuses all of them."""
    return [
        None, True, False, 0, -1, 100, SIXTY_DIGITS, SIXTY_ONE_DIGITS, -HUNDRED_DIGITS,
        "", "a", "A", "f", " ", "\n", "a\n", "put", "swap", "x" * 9000, "a" * 9000,
        (), ("a",), ("put",), ("f",), ("b", "a"), ("a", "a"), ("a", 1), ("a", None), ((),), (("a",),),
        ("put", "f"), ("put", ["a"]), ("swap", "a"), ("swap", {"a": 1}, "b"), (SLOW, "a"), (["put"], "a"),
        [], ["a"], ["put", "a"], [[[]]], {}, {"a": 1}, {1: "a"}, {("a", "b"): 1}, {None: None}, {True: ()},
        nested(3), nested(8), SLOW, [SLOW], {"a": SLOW},
    ]


def some_prices():
    """Prices of many kinds, the same ones in each run."""
    chance = random.Random(20)
    found = [SLOW, ONE, Prices.even(("c",), 9), Prices.even(tuple("abcde"), 4)]
    for count in (1, 2, 3, 3, 4, 5, 5):
        for share in (0.2, 0.6, 1):
            signs = sorted(chance.sample("abcde", count))
            pairs = [(one, other) for one in signs for other in signs if one != other]
            found.append(Prices(
                put={sign: chance.randint(1, 9) for sign in signs},
                out={sign: chance.randint(1, 9) for sign in signs},
                swap={pair: chance.randint(1, 18) for pair in pairs if chance.random() < share},
            ))
    return found
