import inspect
import itertools
import unittest

from mendnumber.base import changes as module
from mendnumber.base.changes import (
    alignment, changed, distance, is_alignment, is_least_changes, least_changes, price_of, undone,
)
from mendnumber.base.prices import Prices
from mendnumber.errors import InvalidChange, InvalidOperation, InvalidPrices, InvalidWord, TooMany
from test_prices import costs_from
from values import (
    HUNDRED_DIGITS, ONE, SIXTY_DIGITS, SIXTY_ONE_DIGITS, SLOW, near, odd_values, odd_values_but, some_prices,
)

WORDS = ["", "a", "b", "ab", "ba", "aab", "bab", "bbaa"]
ALL = Prices.even(("a", "b", "c", "d", "e"))


def is_word(value):
    return isinstance(value, str) and set(value) <= set("abcde")


def is_index(value, many):
    return type(value) is int and 0 <= value < many


def follow(word, change):
    """The word behind one change, or None if it cannot be made."""
    if type(change) is not tuple or not change or type(change[0]) is not str:
        return None
    signs = [sign for sign in "abcde"]
    if change[0] == "put" and len(change) == 3 and is_index(change[1], len(word) + 1) and change[2] in signs:
        return word[:change[1]] + change[2] + word[change[1]:]
    if change[0] == "out" and len(change) == 2 and is_index(change[1], len(word)):
        return word[:change[1]] + word[change[1] + 1:]
    if change[0] == "swap" and len(change) == 3 and is_index(change[1], len(word)) and change[2] in signs:
        if word[change[1]] != change[2]:
            return word[:change[1]] + change[2] + word[change[1] + 1:]
    return None


def follow_all(word, row):
    """The words on the way of a row of changes, or None if it is none."""
    if type(row) is not tuple:
        return None
    way = [word]
    for change in row:
        way.append(follow(way[-1], change))
        if way[-1] is None:
            return None
    return way


def price_of_change(word, change, prices):
    if change[0] == "put":
        return prices.put.get(change[2])
    if change[0] == "out":
        return prices.out.get(word[change[1]])
    return prices.swap.get((word[change[1]], change[2]))


def price_of_row(word, row, prices):
    """The price of a row of changes, or None if it is none or a change has no price."""
    way = follow_all(word, row)
    if way is None:
        return None
    found = [price_of_change(here, change, prices) for here, change in zip(way, row)]
    return None if None in found else sum(found)


def changes_of(word, signs):
    """All single changes of a word with these signs."""
    for at in range(len(word) + 1):
        yield from (("put", at, sign) for sign in signs)
    for at in range(len(word)):
        yield ("out", at)
        yield from (("swap", at, sign) for sign in signs if sign != word[at])


def rows_of_price(word, other, prices, price):
    """All rows of changes of this price from the word to the other one."""
    if price == 0:
        return [()] if word == other else []
    found = []
    for change in changes_of(word, prices.signs):
        paid = price_of_change(word, change, prices)
        if paid is not None and paid <= price:
            found.extend((change, *row) for row in rows_of_price(follow(word, change), other, prices, price - paid))
    return found


def all_alignments(i, j, many, others):
    """All alignments of the rest of words of so many signs."""
    if i == many and j == others:
        yield ()
    if i < many:
        yield from (((i, None), *rest) for rest in all_alignments(i + 1, j, many, others))
    if j < others:
        yield from (((None, j), *rest) for rest in all_alignments(i, j + 1, many, others))
    if i < many and j < others:
        yield from (((i, j), *rest) for rest in all_alignments(i + 1, j + 1, many, others))


def price_of_alignment(one, other, prices, pairs):
    closed = prices.closed()
    price = 0
    for i, j in pairs:
        if i is None:
            price += closed.put[other[j]]
        elif j is None:
            price += closed.out[one[i]]
        elif one[i] != other[j]:
            price += closed.swap[one[i], other[j]]
    return price


class ChangedTest(unittest.TestCase):
    def test_each_change(self):
        self.assertEqual(changed("ab", (("put", 0, "c"),)), "cab")
        self.assertEqual(changed("ab", (("put", 1, "c"),)), "acb")
        self.assertEqual(changed("ab", (("put", 2, "c"),)), "abc")
        self.assertEqual(changed("ab", (("out", 0),)), "b")
        self.assertEqual(changed("ab", (("out", 1),)), "a")
        self.assertEqual(changed("ab", (("swap", 1, "a"),)), "aa")

    def test_rows_and_empty_words(self):
        self.assertEqual(changed("", ()), "")
        self.assertEqual(changed("abc", ()), "abc")
        self.assertEqual(changed("", (("put", 0, "a"), ("out", 0))), "")
        self.assertEqual(changed("a", (("out", 0),)), "")
        self.assertEqual(undone("", ()), ())

    def test_several_changes_at_one_place(self):
        row = (("swap", 1, "b"), ("swap", 1, "c"), ("put", 1, "d"), ("out", 1), ("out", 1), ("put", 1, "a"))
        self.assertEqual(changed("aaa", row), "aaa")
        self.assertEqual(undone("aaa", row), (
            ("out", 1), ("put", 1, "c"), ("put", 1, "d"), ("out", 1), ("swap", 1, "b"), ("swap", 1, "a"),
        ))

    def test_undone_leads_back_one_by_one(self):
        for word in WORDS:
            for row in itertools.product(list(changes_of("ab", "abc")), repeat=2):
                way = follow_all(word, row)
                if way is not None:
                    self.assertEqual(changed(word, row), way[-1])
                    back = undone(word, row)
                    self.assertEqual(follow_all(way[-1], back), way[::-1])

    def test_all_single_changes(self):
        for word in WORDS:
            for change in changes_of(word, "abcde"):
                self.assertEqual(changed(word, (change,)), follow(word, change))
                self.assertEqual(follow(changed(word, (change,)), undone(word, (change,))[0]), word)

    def test_changes_that_cannot_be_made(self):
        wrong = [
            ("put", -1, "a"), ("put", 3, "a"), ("put", 0, "f"), ("put", 0, ""), ("put", 0, "ab"), ("put", 0),
            ("put", 0, "a", 0), ("put", True, "a"), ("put", "0", "a"), ("put", None, "a"), ("put", 0, None),
            ("out", -1), ("out", 2), ("out", False), ("out", 0, "a"), ("out",), ("out", None), ("out", "0"),
            ("swap", 2, "a"), ("swap", -1, "b"), ("swap", 0, "a"), ("swap", 1, "b"), ("swap", 0), ("swap", 0, "f"),
            ("swap", False, "b"), ("swap", 0, ""), ("swap", 0, 1), ("swap", 0, "b", "c"), ("swap", "a", "b"),
            ("Put", 0, "a"), ("keep", 0), ("", 0), (0, 0), (None, 0), ("put", SIXTY_ONE_DIGITS, "a"),
            ("out", SIXTY_DIGITS), ("out", HUNDRED_DIGITS), ["put", 0, "a"], "put", (), ("put",), ("put", [0], "a"),
            ("put", 0, ["a"]), (["put"], 0, "a"), (("put", 0, "a"),), {"put": 0}, None, 1,
        ]
        for use in (changed, undone):
            for change in wrong:
                with self.subTest(repr(change)[:40]):
                    with self.assertRaises(InvalidChange):
                        use("ab", (change,))
                    with self.assertRaises(InvalidChange):
                        use("ab", (("out", 0), ("put", 0, "a"), change))

    def test_each_change_is_about_the_word_behind_the_one_ahead(self):
        for row in ((("out", 0), ("out", 0)), (("out", 0), ("swap", 0, "b")), (("swap", 0, "b"), ("swap", 0, "b"))):
            with self.assertRaises(InvalidChange):
                changed("a", row)
        self.assertEqual(changed("a", (("put", 1, "b"), ("out", 1), ("swap", 0, "b"), ("swap", 0, "a"))), "a")

    def test_rows_are_tuples_of_any_length(self):
        for use in (changed, undone):
            for value in odd_values_but((), (("put", 0, "a"),), (("out", 0),)):
                with self.assertRaises(InvalidChange):
                    use("ab", value)
            with self.assertRaises(InvalidChange):
                use("ab", [("out", 0)])
        row = (("put", 0, "a"), ("swap", 0, "b"), ("out", 0)) * 3000
        self.assertEqual(changed("", row), "")
        self.assertEqual(len(undone("", row)), 9000)
        self.assertEqual(changed("b" * 1000, (("put", 0, "a"),) * 1000), "a" * 1000 + "b" * 1000)

    def test_words(self):
        for use in (changed, undone):
            for value in odd_values_but("", "a"):
                with self.assertRaises(InvalidWord):
                    use(value, None)
            with self.assertRaises(InvalidWord):
                use("a" * 1001, ())
            use("a" * 1000, ())


class PriceTest(unittest.TestCase):
    def test_prices_are_added(self):
        prices = Prices(put={"a": 1, "b": 2}, out={"a": 3, "b": 4}, swap={("a", "b"): 5, ("b", "a"): 18})
        self.assertEqual(price_of("a", (), prices), 0)
        self.assertEqual(price_of("a", (("put", 0, "a"),), prices), 1)
        self.assertEqual(price_of("a", (("put", 0, "b"),), prices), 2)
        self.assertEqual(price_of("a", (("out", 0),), prices), 3)
        self.assertEqual(price_of("b", (("out", 0),), prices), 4)
        self.assertEqual(price_of("a", (("swap", 0, "b"),), prices), 5)
        self.assertEqual(price_of("b", (("swap", 0, "a"),), prices), 18)
        self.assertEqual(price_of("ba", (("out", 0), ("out", 0), ("put", 0, "a"), ("swap", 0, "b")), prices), 13)

    def test_prices_are_not_closed_ahead(self):
        self.assertEqual(price_of("", (("put", 0, "a"),), SLOW), 9)
        self.assertEqual(price_of("", (("put", 0, "b"), ("swap", 0, "a")), SLOW), 2)

    def test_changes_without_a_price(self):
        for word, row in (("a", (("swap", 0, "b"),)), ("", (("put", 0, "c"),)), ("c", (("out", 0),)),
                          ("b", (("swap", 0, "c"),)), ("c", (("swap", 0, "a"),)),
                          ("a", (("out", 0), ("put", 0, "a"), ("swap", 0, "b")))):
            with self.assertRaises(InvalidOperation):
                price_of(word, row, SLOW)
        self.assertEqual(price_of("cc", (("put", 0, "b"),), SLOW), 1)

    def test_against_single_changes(self):
        for prices in some_prices():
            for row in itertools.product(list(changes_of("abc", "abcd")), repeat=2):
                for word in ("abc", "dd"):
                    if follow_all(word, row) is not None:
                        price = price_of_row(word, row, prices)
                        if price is None:
                            with self.assertRaises(InvalidOperation):
                                price_of(word, row, prices)
                        else:
                            self.assertEqual(price_of(word, row, prices), price)

    def test_order_of_errors(self):
        with self.assertRaises(InvalidWord):
            price_of("f", (("out", 7),), None)
        with self.assertRaises(InvalidChange):
            price_of("c", (("out", 0), ("out", 0)), None)
        with self.assertRaises(InvalidPrices):
            price_of("c", (("out", 0),), None)
        with self.assertRaises(InvalidOperation):
            price_of("c", (("out", 0),), SLOW)
        for value in odd_values():
            if value != SLOW:
                with self.assertRaises(InvalidPrices):
                    price_of("c", (("out", 0),), value)


class DistanceTest(unittest.TestCase):
    def test_against_all_rows_of_changes(self):
        for prices in some_prices():
            longest = {1: 6, 2: 5, 3: 4}.get(len(prices), 3)
            words = [word for word in WORDS + ["c", "cab", "ede"] if set(word) <= set(prices.signs)]
            words = [word for word in words if len(word) <= longest]
            for one in words:
                costs = costs_from(one, prices, longest)
                for other in words:
                    cost = costs[other]
                    self.assertEqual(distance(one, other, prices), cost)
                    row = least_changes(one, other, prices)
                    self.assertEqual((follow_all(one, row)[-1], price_of_row(one, row, prices)), (other, cost))
                    self.assertIs(is_least_changes(one, other, prices, row), True)
                    pairs = alignment(one, other, prices)
                    self.assertIn(pairs, list(all_alignments(0, 0, len(one), len(other))))
                    self.assertEqual(price_of_alignment(one, other, prices, pairs), cost)
                    self.assertIs(is_alignment(one, other, prices, pairs), True)

    def test_known_costs(self):
        self.assertEqual(distance("", "", SLOW), 0)
        self.assertEqual(distance("", "a", SLOW), 2)
        self.assertEqual(distance("b", "", SLOW), 3)
        self.assertEqual(distance("abab", "aab", ONE), 1)
        self.assertEqual(distance("abab", "baba", ONE), 2)
        self.assertEqual(least_changes("ab", "ab", SLOW), ())
        self.assertEqual(alignment("", "", SLOW), ())

    def test_long_words(self):
        for one, other in (("a" * 200, "b" * 200), ("", "b" * 200), ("ab" * 100, "ba" * 100)):
            for prices in (ONE, SLOW):
                cost = distance(one, other, prices)
                row = least_changes(one, other, prices)
                self.assertEqual((changed(one, row), price_of(one, row, prices)), (other, cost))
                self.assertIs(is_least_changes(one, other, prices, row), True)
                self.assertIs(is_alignment(one, other, prices, alignment(one, other, prices)), True)
        self.assertEqual(distance("a" * 200, "b" * 200, ONE), 200)
        self.assertEqual(distance("ab" * 100, "ba" * 100, ONE), 2)

    def test_errors(self):
        calls = (
            distance, least_changes, alignment, lambda *given: is_least_changes(*given, ()),
            lambda *given: is_alignment(*given, ()), lambda *given: is_least_changes(*given, None),
            lambda *given: is_alignment(*given, [()]),
        )
        for use in calls:
            for value in odd_values_but("", "a"):
                with self.assertRaises(InvalidWord):
                    use(value, "f", None)
                with self.assertRaises(InvalidWord):
                    use("c" * 300, value, None)
                if value != SLOW:
                    with self.assertRaises(InvalidPrices):
                        use("c" * 300, "", value)
            for one, other in (("c", ""), ("", "c"), ("c" * 201, ""), ("a" * 201, "c"), ("c", "c"), ("c", "a" * 201)):
                with self.assertRaises(InvalidOperation):
                    use(one, other, SLOW)
            for one, other in (("a" * 201, ""), ("", "a" * 201), ("a" * 1000, "a" * 1000), ("b" * 201, "b" * 201)):
                with self.assertRaises(TooMany) as caught:
                    use(one, other, SLOW)
                self.assertEqual(caught.exception.limit, 200)
            for one, other in (("a" * 1001, ""), ("", "a" * 1001), ("f", "a" * 201)):
                with self.assertRaises(InvalidWord):
                    use(one, other, SLOW)


class JudgingTest(unittest.TestCase):
    def test_all_least_rows_are_accepted(self):
        cheap = Prices(put={"a": 2, "b": 1}, out={"a": 1, "b": 2}, swap={("a", "b"): 2, ("b", "a"): 1})
        for prices in (ONE, SLOW, cheap, cheap.with_price(("swap", "a", "b"), None)):
            for one in ("", "a", "ab", "ba"):
                for other in ("", "b", "ab", "aab"):
                    cost = distance(one, other, prices)
                    for price in range(min(cost + 3, 6)):
                        for row in rows_of_price(one, other, prices, price):
                            self.assertIs(is_least_changes(one, other, prices, row), price == cost)

    def test_rows_near_a_right_one(self):
        for prices in (ONE, SLOW, ALL):
            for one, other in (("ab", "ba"), ("abab", "b"), ("", "ab"), ("ba", ""), ("bab", "bab"), ("aa", "bbb")):
                cost = distance(one, other, prices)
                for value in near(least_changes(one, other, prices)) + odd_values():
                    way = follow_all(one, value)
                    right = way is not None and way[-1] == other and price_of_row(one, value, prices) == cost
                    self.assertIs(is_least_changes(one, other, prices, value), right)

    def test_rows_without_a_price_are_none(self):
        closed = ONE.with_price(("swap", "a", "b"), None)
        self.assertEqual(distance("a", "b", closed), 2)
        self.assertIs(is_least_changes("a", "b", closed, (("swap", 0, "b"),)), False)
        self.assertIs(is_least_changes("a", "b", closed, (("out", 0), ("put", 0, "b"))), True)
        self.assertIs(is_least_changes("a", "b", closed, (("put", 0, "b"), ("out", 1))), True)
        self.assertIs(is_least_changes("a", "b", closed, (("put", 1, "b"), ("out", 0))), True)
        self.assertIs(is_least_changes("a", "b", ONE, (("swap", 0, "c"), ("swap", 0, "b"))), False)

    def test_all_alignments(self):
        for prices in some_prices()[:12]:
            words = [word for word in ("", "a", "ab", "ba", "bab", "cac", "ccb") if set(word) <= set(prices.signs)]
            for one in words:
                for other in words:
                    cost = distance(one, other, prices)
                    for pairs in all_alignments(0, 0, len(one), len(other)):
                        right = price_of_alignment(one, other, prices, pairs) == cost
                        self.assertIs(is_alignment(one, other, prices, pairs), right)

    def test_alignments_near_a_right_one(self):
        for one, other in (("ab", "ba"), ("abab", "b"), ("", "ab"), ("ba", ""), ("bab", "bab")):
            right = [
                pairs for pairs in all_alignments(0, 0, len(one), len(other))
                if price_of_alignment(one, other, ONE, pairs) == distance(one, other, ONE)
            ]
            for value in near(alignment(one, other, ONE)) + odd_values():
                told = is_alignment(one, other, ONE, value)
                self.assertIs(told, str(value) in [str(pairs) for pairs in right])

    def test_true_is_not_1(self):
        self.assertIs(is_alignment("ab", "ab", ONE, ((0, 0), (1, 1))), True)
        self.assertIs(is_alignment("ab", "ab", ONE, ((0, 0), (1, True))), False)
        self.assertIs(is_alignment("ab", "ab", ONE, ((False, 0), (1, 1))), False)
        self.assertIs(is_least_changes("ab", "a", ONE, (("out", 1),)), True)
        self.assertIs(is_least_changes("ab", "a", ONE, (("out", True),)), False)
        self.assertIs(is_alignment("", "", ONE, ((None, None),)), False)
        self.assertIs(is_alignment("a", "a", ONE, ((0, 0), (None, None))), False)


class InterfaceTest(unittest.TestCase):
    def test_parameters(self):
        wanted = {
            changed: "(word, changes)", undone: "(word, changes)", price_of: "(word, changes, prices)",
            distance: "(one, other, prices)", least_changes: "(one, other, prices)",
            is_least_changes: "(one, other, prices, value)", alignment: "(one, other, prices)",
            is_alignment: "(one, other, prices, value)",
        }
        for function, told in wanted.items():
            self.assertEqual(str(inspect.signature(function)), told)
            self.assertEqual(function.__module__, module.__name__)

    def test_kinds_of_results(self):
        row = least_changes("ab", "ba", ONE)
        self.assertIs(type(row), tuple)
        self.assertTrue(all(type(change) is tuple for change in row))
        self.assertIs(type(alignment("ab", "ba", ONE)), tuple)
        self.assertIs(type(undone("ab", ())), tuple)
        self.assertEqual(least_changes("ab", "ba", SLOW), least_changes("ab", "ba", SLOW))
