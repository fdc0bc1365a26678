import inspect
import itertools
import random
import unittest

from mendnumber.base.changes import distance
from mendnumber.base.prices import Prices
from mendnumber.core import rows as module
from mendnumber.core.rows import cut_row, end_cost, is_row, row_behind, row_of, stands_above, start_row
from mendnumber.errors import (
    InvalidForm, InvalidNumber, InvalidOperation, InvalidPrices, InvalidRow, InvalidWord, TooMany,
)
from mendnumber.forms.form import Form
from oracles import (
    above, check_order, costs_to_states, cut_at, row_of_step, wrong_forms, wrong_numbers, wrong_prices, wrong_words,
)
from values import AHEAD, ANY, ONE, PAIRS, SLOW, THREES, near, odd_values, some_forms, some_prices

ALL = Prices.even(("a", "b", "c", "d", "e"))
SIX = Form(tuple(({"a": (at + 1) % 6}, at == 0) for at in range(6)))
SEVEN = Form(tuple(({"a": (at + 1) % 7}, at == 0) for at in range(7)))
SEVEN_C = Form(tuple(({"c": (at + 1) % 7}, at == 0) for at in range(7)))


def treated(forms=None):
    """Pairs of forms of at most six states and prices with their signs."""
    forms = [form for form in forms or some_forms() if len(form) <= 6]
    for at, form in enumerate(forms):
        prices = [made for made in some_prices() if set(form.signs) <= set(made.signs)]
        for made in (prices[at % len(prices)], prices[(at * 7 + 3) % len(prices)]):
            yield form, made


def is_row_like(value, many=None):
    return type(value) is tuple and 1 <= len(value) <= 6 and len(value) == (many or len(value)) and all(
        type(number) is int and 0 <= number <= 9999 for number in value)


def wrong_rows(many=None):
    found = [value for value in odd_values() if not is_row_like(value, many)]
    right = (3, 0, 5)[:many or 3]
    found += [value for value in near(right) if not is_row_like(value, many)]
    return found + [(10000,) * (many or 1), (-1,) * (many or 1), (0,) * 7, (0,) * 5 + (10000,)]


class RowsTest(unittest.TestCase):
    def test_rows_of_words(self):
        chance = random.Random(3)
        for form, prices in treated():
            self.assertEqual(start_row(form, prices), costs_to_states("", form, prices))
            for length in (0, 1, 2, 3, 5, 9):
                word = "".join(chance.choices(prices.signs, k=length))
                self.assertEqual(row_of(form, prices, word), costs_to_states(word, form, prices))

    def test_rows_against_words_that_lead_to_the_states(self):
        for form in (PAIRS, THREES, AHEAD, Form((({"b": 1}, False), ({"a": 1, "b": 0}, True)))):
            for prices in (ONE, SLOW):
                for word in ("", "a", "ba", "aab"):
                    costs = {}
                    for length in range(8):
                        for letters in itertools.product("ab", repeat=length):
                            other = "".join(letters)
                            walk = form.walk(other)
                            if len(walk) == length + 1:
                                price = distance(word, other, prices)
                                costs[walk[-1]] = min(price, costs.get(walk[-1], price))
                    self.assertEqual(row_of(form, prices, word), tuple(costs[at] for at in range(len(form))))

    def test_the_row_behind_is_that_of_the_longer_word(self):
        for form, prices in treated():
            row = start_row(form, prices)
            word = ""
            for sign in (prices.signs * 4)[:6]:
                row = row_behind(form, prices, row, sign)
                word += sign
                self.assertEqual(row, row_of(form, prices, word))
                self.assertIs(is_row(form, row), True)

    def test_rows_behind_any_rows(self):
        chance = random.Random(4)
        for form, prices in treated():
            for most in (1, 5, 30, 9999):
                row = tuple(chance.choice((0, most, chance.randint(0, most))) for _ in range(len(form)))
                for sign in prices.signs:
                    behind = row_behind(form, prices, row, sign)
                    self.assertEqual(behind, row_of_step(form, prices, row, sign))

    def test_rows_that_are_returned_can_have_greater_numbers(self):
        self.assertEqual(row_behind(ANY, ONE, (9999,), "b"), (10000,))
        self.assertIs(is_row(ANY, (10000,)), False)
        self.assertEqual(row_behind(ANY, ONE, (9999,), "a"), (9999,))
        prices = Prices.even(("a",), 9)
        self.assertEqual(row_of(Form((({}, True),)), prices, "a" * 1000), (9000,))
        with_swap = Prices(put={"a": 9, "b": 9}, out={"a": 9, "b": 9}, swap={("b", "a"): 18})
        self.assertEqual(row_of(PAIRS, with_swap, "b" * 1000)[0], 9000)

    def test_closed_prices_are_taken(self):
        closed = SLOW.closed()
        for form in (ANY, PAIRS, THREES, AHEAD):
            for word in ("", "a", "bab"):
                self.assertEqual(row_of(form, SLOW, word), row_of(form, closed, word))
        self.assertEqual(start_row(THREES, SLOW), (0, 2, 4))

    def test_end_cost(self):
        self.assertEqual(end_cost(THREES, (3, 0, 0)), 3)
        self.assertEqual(end_cost(AHEAD, (3, 2)), 2)
        self.assertEqual(end_cost(AHEAD, (9999, 9999)), 9999)
        self.assertEqual(end_cost(PAIRS, (0, 9999)), 0)
        for form, prices in treated():
            row = row_of(form, prices, "")
            self.assertEqual(end_cost(form, row), min(row[at] for at, state in enumerate(form.states) if state[1]))

    def test_cut_rows(self):
        self.assertEqual(cut_row((0, 5, 9999), 5), (0, 5, 5))
        self.assertEqual(cut_row((0, 5, 9999), 0), (0, 0, 0))
        self.assertEqual(cut_row((0, 5, 9999), 9999), (0, 5, 9999))
        self.assertEqual(cut_row((7,), 6), (6,))
        self.assertEqual(cut_row((1, 2, 3, 4, 5, 6), 3), (1, 2, 3, 3, 3, 3))

    def test_above(self):
        for one in itertools.product(range(3), repeat=3):
            for other in itertools.product(range(3), repeat=3):
                self.assertIs(stands_above(one, other), above(one, other))
        self.assertIs(stands_above((9999,), (9999,)), True)
        for one, other in (((0,), (0, 0)), ((0, 0), (0,)), ((0,) * 6, (0,) * 5)):
            with self.assertRaises(InvalidOperation):
                stands_above(one, other)

    def test_laws_of_cut_rows(self):
        chance = random.Random(8)
        for form, prices in treated():
            for limit in (0, 1, 4, 12):
                low = tuple(chance.randint(0, 9) for _ in range(len(form)))
                high = tuple(number + chance.choice((0, 0, 3)) for number in low)
                for sign in prices.signs:
                    behind = row_behind(form, prices, low, sign)
                    self.assertIs(stands_above(row_behind(form, prices, high, sign), behind), True)
                    cut = row_behind(form, prices, cut_row(low, limit), sign)
                    self.assertEqual(cut_row(cut, limit), cut_row(behind, limit))
                    self.assertEqual(cut_row(low, limit), cut_at(low, limit))


class JudgingTest(unittest.TestCase):
    def test_rows(self):
        for form in (ANY, PAIRS, THREES, SIX):
            many = len(form)
            for value in odd_values() + wrong_rows(many) + near((3, 0, 5)[:many]) + [
                (0,) * many, (9999,) * many, (10000,) * many, (0,) * (many + 1), (0,) * (many - 1), [0] * many,
                (True,) + (0,) * (many - 1), (-1,) * many,
            ]:
                self.assertIs(is_row(form, value), is_row_like(value, many))

    def test_errors_of_is_row(self):
        for value in wrong_forms():
            with self.assertRaises(InvalidForm):
                is_row(value, None)
        for value in odd_values() + [(0,) * 7]:
            with self.assertRaises(TooMany) as caught:
                is_row(SEVEN, value)
            self.assertEqual(caught.exception.limit, 6)


class ErrorsTest(unittest.TestCase):
    def test_order(self):
        forms, prices, words = wrong_forms(), wrong_prices(), wrong_words()
        signs = [value for value in odd_values() if value != "a"]
        check_order(self, start_row, (SEVEN_C, forms, InvalidForm), (SLOW, prices, InvalidPrices))
        check_order(self, row_of, (SEVEN_C, forms, InvalidForm), (SLOW, prices, InvalidPrices), ("c", words, InvalidWord))
        check_order(self, row_behind, (THREES, forms, InvalidForm), (SLOW, prices, InvalidPrices),
                    ((0, 0, 0), wrong_rows(3), InvalidRow), ("c", signs, InvalidWord))
        check_order(self, end_cost, (THREES, forms, InvalidForm), ((0, 0, 0), wrong_rows(3), InvalidRow))
        check_order(self, cut_row, ((0, 0), wrong_rows(), InvalidRow), (3, wrong_numbers(0, 9999), InvalidNumber))
        check_order(self, stands_above, ((0, 0), wrong_rows(), InvalidRow), ((0, 0, 0), wrong_rows(), InvalidRow))

    def test_signs_without_a_price_and_seven_states(self):
        six_c = SIX.renamed({"a": "c"})
        for call in (
            lambda: start_row(six_c, SLOW), lambda: start_row(SEVEN_C, SLOW), lambda: row_of(SIX, SLOW, "c"),
            lambda: row_of(SEVEN, SLOW, "c"), lambda: row_of(SEVEN_C, SLOW, ""), lambda: row_of(six_c, SLOW, "a"),
            lambda: row_behind(ANY, SLOW, (0,), "c"), lambda: row_behind(six_c, SLOW, (0,) * 6, "a"),
            lambda: row_behind(PAIRS, Prices.even(("a",)), (0, 0), "a"), lambda: row_of(ANY, Prices.even(("b",)), "b"),
        ):
            with self.assertRaises(InvalidOperation):
                call()
        for call in (lambda: start_row(SEVEN, SLOW), lambda: row_of(SEVEN, SLOW, "b"), lambda: row_of(SEVEN_C, ALL, "")):
            with self.assertRaises(TooMany) as caught:
                call()
            self.assertEqual(caught.exception.limit, 6)
        self.assertEqual(start_row(SIX, SLOW), (0, 2, 4, 6, 8, 10))
        self.assertEqual(len(row_of(SIX, ALL, "edcba" * 200)), 6)
        with self.assertRaises(InvalidWord):
            row_of(SIX, ALL, "edcba" * 200 + "a")

    def test_forms_with_seven_states_have_no_rows_that_can_be_passed(self):
        for row in ((0,) * 7, (0,) * 6):
            with self.assertRaises(InvalidRow):
                row_behind(SEVEN, SLOW, row, "a")
            with self.assertRaises(InvalidRow):
                end_cost(SEVEN, row)
        with self.assertRaises(InvalidRow):
            cut_row((0,) * 7, 3)

    def test_interface(self):
        wanted = {
            is_row: "(target, value)", start_row: "(target, prices)", row_of: "(target, prices, word)",
            row_behind: "(target, prices, row, sign)", end_cost: "(target, row)", cut_row: "(row, limit)",
            stands_above: "(one, other)",
        }
        for function, told in wanted.items():
            self.assertEqual(str(inspect.signature(function)), told)
            self.assertEqual(function.__module__, module.__name__)
        self.assertIs(type(row_of(THREES, ONE, "ab")), tuple)
