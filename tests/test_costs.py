import inspect
import itertools
import random
import unittest

from mendnumber.base.changes import changed, distance, price_of
from mendnumber.base.prices import Prices
from mendnumber.core import costs as module
from mendnumber.core.costs import cost, costs_by, is_mending, mending, nearest, nearest_words
from mendnumber.errors import InvalidForm, InvalidNumber, InvalidOperation, InvalidPrices, InvalidWord, TooMany
from mendnumber.forms.form import Form
from oracles import check_order, cost_to, wrong_forms, wrong_numbers, wrong_prices, wrong_words
from test_changes import follow_all, price_of_row, rows_of_price
from test_rows import ALL, SEVEN, SEVEN_C, SIX, treated
from values import AHEAD, ANY, ONE, PAIRS, SLOW, THREES, near, odd_values, words_of


def words_to_try(prices, seed):
    chance = random.Random(seed)
    return ["", *prices.signs, *("".join(chance.choices(prices.signs, k=length)) for length in (2, 3, 4, 7))]


def in_order(words):
    return sorted(words, key=lambda word: (len(word), word))


class CostTest(unittest.TestCase):
    def test_against_single_changes(self):
        for at, (form, prices) in enumerate(treated()):
            for word in words_to_try(prices, at):
                self.assertEqual(cost(word, form, prices), cost_to(word, form, prices))

    def test_against_all_words_of_the_target(self):
        for form, prices in treated():
            if len(form) <= 3 and len(form.signs) <= 2:
                words = words_of(form.states, 6)
                for word in ("", prices.signs[0], prices.signs[-1] * 2, "".join(prices.signs)[:3]):
                    price = min(distance(word, other, prices) for other in words)
                    self.assertEqual(cost(word, form, prices), price)

    def test_known_costs(self):
        self.assertEqual([cost("a" * many, THREES, ONE) for many in range(7)], [0, 1, 1, 0, 1, 1, 0])
        self.assertEqual(cost("ba", PAIRS, ONE), 2)
        self.assertEqual(cost("a" * 1000, PAIRS, ONE), 500)
        self.assertEqual(cost("b" * 1000, ANY, SLOW), 1000)
        self.assertEqual(cost("abcde" * 200, ANY, ALL), 800)
        self.assertEqual(cost("e" * 1000, Form((({}, True),)), Prices.even(("e",), 9)), 9000)

    def test_words_of_the_target_cost_nothing(self):
        for form, prices in treated():
            for word in words_of(form.states, 5)[:20]:
                self.assertEqual(cost(word, form, prices), 0)
                self.assertEqual(list(nearest_words(word, form, prices)), [word])
                self.assertEqual(mending(word, form, prices), ())


class NearestTest(unittest.TestCase):
    def test_against_all_words_of_the_target(self):
        for at, (form, prices) in enumerate(treated()):
            longest = 6 if len(form.signs) <= 2 else 4
            words = words_of(form.states, longest)
            for word in words_to_try(prices, at)[:7]:
                price = cost_to(word, form, prices)
                found = list(itertools.islice(nearest_words(word, form, prices), 200))
                wanted = [other for other in words if distance(word, other, prices) == price]
                self.assertEqual(found, in_order(set(found)))
                if len(found) < 200:
                    self.assertEqual([other for other in found if len(other) <= longest], wanted)
                for other in found[-20:]:
                    self.assertTrue(other in form and distance(word, other, prices) == price)
                self.assertEqual(nearest(word, form, prices), found[0])

    def test_known_words(self):
        self.assertEqual(list(nearest_words("aa", THREES, ONE)), ["aaa"])
        self.assertEqual(list(nearest_words("a", THREES, ONE)), [""])
        self.assertEqual(list(nearest_words("ba", PAIRS, ONE)), ["", "ab", "abab"])
        self.assertEqual(list(nearest_words("", Form.of_words(("a", "b", "cc")), ALL)), ["a", "b"])
        # Long words that are put in cheaply cost as much as few expensive changes.
        cheap = Prices(put={"a": 1, "b": 9}, out={"a": 9, "b": 8}, swap={})
        target = Form((({"a": 1}, True), ({"a": 2}, False), ({"a": 3}, False), ({"a": 0}, False)))
        self.assertEqual(list(nearest_words("bb", target, cheap)), [""])
        self.assertEqual(list(nearest_words("ab", target, cheap)), ["aaaa"])

    def test_words_are_told_one_by_one(self):
        every = Form((({"b": 0, "c": 0}, True),))
        prices = Prices.even(("a", "b", "c"))
        words = nearest_words("a" * 20, every, prices)
        self.assertTrue(inspect.isgenerator(words))
        self.assertEqual(list(itertools.islice(words, 8)), ["", "b", "c", "bb", "bc", "cb", "cc", "bbb"])
        longer = every & Form(tuple(({"b": (at + 1) % 6, "c": (at + 1) % 6}, at == 5) for at in range(6)))
        words = list(itertools.islice(nearest_words("a" * 20, longer, prices), 40))
        self.assertEqual(words[:3] + words[31:34], ["bbbbb", "bbbbc", "bbbcb", "ccccc", "b" * 11, "b" * 10 + "c"])
        dear = prices.with_price(("out", "a"), 2).with_price(("out", "b"), 2).with_price(("out", "c"), 2)
        words = nearest_words("a" * 20, longer, dear)
        self.assertEqual([next(words), next(words)], ["b" * 17, "b" * 16 + "c"])
        self.assertEqual(nearest("a" * 20, longer, dear), "b" * 17)

    def test_twenty_signs_and_more(self):
        self.assertEqual(nearest("ab" * 10, PAIRS, ONE), "ab" * 10)
        self.assertEqual(nearest("ba" * 10, PAIRS, ONE), "ab" * 9)
        for length in (21, 1000):
            with self.assertRaises(TooMany) as caught:
                nearest("a" * length, PAIRS, ONE)
            self.assertEqual(caught.exception.limit, 20)
            words = nearest_words("a" * length, PAIRS, ONE)
            with self.assertRaises(TooMany) as caught:
                next(words)
            self.assertEqual(caught.exception.limit, 20)
            with self.assertRaises(InvalidOperation):
                nearest("c" * length, PAIRS, ONE)
            with self.assertRaises(TooMany) as caught:
                nearest("a" * length, SEVEN, ONE)
            self.assertEqual(caught.exception.limit, 6)
        with self.assertRaises(InvalidWord):
            nearest("a" * 1001, SEVEN, ONE)


class MendingTest(unittest.TestCase):
    def test_mendings_are_right(self):
        for at, (form, prices) in enumerate(treated()):
            for word in words_to_try(prices, at):
                row = mending(word, form, prices)
                self.assertIs(type(row), tuple)
                self.assertIn(follow_all(word, row)[-1], form)
                self.assertEqual(price_of_row(word, row, prices), cost_to(word, form, prices))
                self.assertIs(is_mending(word, form, prices, row), True)

    def test_long_words(self):
        for word, form, prices in (("a" * 1000, PAIRS, ONE), ("ba" * 500, AHEAD, SLOW), ("ab" * 500, THREES, SLOW)):
            row = mending(word, form, prices)
            self.assertIn(changed(word, row), form)
            self.assertEqual(price_of(word, row, prices), cost(word, form, prices))
            self.assertIs(is_mending(word, form, prices, row), True)

    def test_all_rows_of_changes(self):
        cheap = Prices(put={"a": 2, "b": 1}, out={"a": 1, "b": 2}, swap={("a", "b"): 2})
        for form in (PAIRS, THREES, AHEAD, Form.of_words(("ab", "b"))):
            for prices in (ONE, cheap):
                for word in ("", "a", "ba"):
                    price = cost_to(word, form, prices)
                    for other in words_of(form.states, 3) + ["a", "aa", "bb"]:
                        for paid in range(min(price + 2, 5)):
                            for row in rows_of_price(word, other, prices, paid):
                                self.assertIs(is_mending(word, form, prices, row), other in form and paid == price)

    def test_rows_near_a_right_one(self):
        for word, form, prices in (("aa", THREES, ONE), ("ba", PAIRS, ONE), ("bab", AHEAD, SLOW), ("", PAIRS, ONE),
                                   ("bb", THREES, SLOW), ("", Form.of_words(("ab", "bb")), SLOW)):
            price = cost_to(word, form, prices)
            for value in near(mending(word, form, prices)) + odd_values():
                way = follow_all(word, value)
                right = way is not None and way[-1] in form and price_of_row(word, value, prices) == price
                self.assertIs(is_mending(word, form, prices, value), right)
        self.assertIs(is_mending("aa", THREES, ONE, (("put", 1, "a"),)), True)
        self.assertIs(is_mending("aa", THREES, ONE, (("put", True, "a"),)), False)
        self.assertIs(is_mending("aa", THREES, ONE, (("put", 1, "b"), ("swap", 1, "a"))), False)
        self.assertIs(is_mending("aa", THREES, ONE, ()), False)


class CostsByTest(unittest.TestCase):
    def test_all_words_in_order(self):
        for at, (source, prices) in enumerate(treated()):
            target = [form for form, made in treated() if set(form.signs) <= set(prices.signs)][at % 3]
            for many in (0, 1, 5 if len(source.signs) < 2 else 3):
                found = costs_by(source, target, prices, many=many)
                self.assertEqual(list(found), words_of(source.states, many))
                for word, price in found.items():
                    self.assertEqual(price, cost_to(word, target, prices))

    def test_known_dicts(self):
        known = {"": 0, "a": 1, "aa": 1, "aaa": 0, "aaaa": 1, "aaaaa": 1}
        self.assertEqual(costs_by(ANY, THREES, ONE, many=5), known)
        self.assertEqual(costs_by(Form.of_words(("aaaaa",)), THREES, ONE, many=4), {})
        self.assertEqual(list(costs_by(Form.all_of(tuple("abcde")), ANY, ALL, many=1)), ["", "a", "b", "c", "d", "e"])
        self.assertEqual(len(costs_by(Form.all_of(tuple("abcde")), ANY, ALL, many=5)), 3906)
        self.assertEqual(costs_by(ANY, THREES, ONE, many=0), {"": 0})

    def test_what_was_returned_can_be_changed(self):
        found = costs_by(ANY, THREES, ONE, many=2)
        found["a"] = 7
        found.pop("aa")
        self.assertEqual(costs_by(ANY, THREES, ONE, many=2), {"": 0, "a": 1, "aa": 1})


class ErrorsTest(unittest.TestCase):
    def test_order(self):
        words, forms, prices = wrong_words(), wrong_forms(), wrong_prices()
        three = (("c", words, InvalidWord), (SEVEN, forms, InvalidForm), (SLOW, prices, InvalidPrices))
        for use in (cost, nearest, mending, lambda *given: next(nearest_words(*given)),
                    lambda *given: is_mending(*given, ()), lambda *given: is_mending(*given, None)):
            check_order(self, use, *three)
        check_order(self, costs_by, (SEVEN, forms, InvalidForm), (SEVEN_C, forms, InvalidForm),
                    (SLOW, prices, InvalidPrices), many=(3, wrong_numbers(0, 5), InvalidNumber))

    def test_the_generator_raises_when_it_is_asked(self):
        for given in ((None, None, None), ("c", ANY, ONE), ("a", SEVEN, ONE), ("a" * 21, ANY, ONE)):
            nearest_words(*given)

    def test_signs_without_a_price_and_seven_states(self):
        for use in (cost, nearest, mending, lambda *given: list(itertools.islice(nearest_words(*given), 1)),
                    lambda *given: is_mending(*given, ())):
            for word, target in (("c", ANY), ("a", SEVEN_C), ("c", SEVEN), ("abc", SIX), ("", SIX.renamed({"a": "d"}))):
                with self.assertRaises(InvalidOperation):
                    use(word, target, SLOW)
            for word, target, prices in (("a", SEVEN, SLOW), ("c", SEVEN_C, ALL), ("", SEVEN, ONE)):
                with self.assertRaises(TooMany) as caught:
                    use(word, target, prices)
                self.assertEqual(caught.exception.limit, 6)
            use("ab", SIX, SLOW)
        for source, target in ((ANY, SEVEN_C), (SEVEN_C, ANY), (SEVEN, SEVEN_C), (SEVEN_C, SEVEN)):
            with self.assertRaises(InvalidOperation):
                costs_by(source, target, SLOW, many=0)
        for source, target in ((ANY, SEVEN), (SEVEN, ANY), (SEVEN, SEVEN)):
            with self.assertRaises(TooMany) as caught:
                costs_by(source, target, SLOW, many=0)
            self.assertEqual(caught.exception.limit, 6)
        self.assertEqual(costs_by(SIX, SIX, SLOW, many=5), {"": 0})

    def test_interface(self):
        three = "(word, target, prices)"
        wanted = {
            cost: three, nearest_words: three, nearest: three, mending: three,
            is_mending: "(word, target, prices, value)", costs_by: "(source, target, prices, *, many)",
        }
        for function, told in wanted.items():
            self.assertEqual(str(inspect.signature(function)), told)
            self.assertEqual(function.__module__, module.__name__)
