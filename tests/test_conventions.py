import copy
import inspect
import unittest

from mendnumber.base import prices, words
from mendnumber.base.changes import is_alignment, is_least_changes
from mendnumber.base.integers import is_number
from mendnumber.base.prices import Prices
from mendnumber.base.words import is_sign, is_word, ordered, words_upto
from mendnumber.core.costs import is_mending
from mendnumber.core.rows import is_row
from mendnumber.decide.tables import is_bound_table
from mendnumber.errors import InvalidChange, InvalidNumber, InvalidOperation, InvalidPrices, InvalidWord
from mendnumber.forms.form import Form, is_least
from mendnumber.forms.patterns import is_pattern
from mendnumber.rings.rings import Rings
from values import (
    AHEAD, ANY, HUNDRED_DIGITS, ONE, PAIRS, SIXTY_DIGITS, SIXTY_ONE_DIGITS, SLOW, THREES, odd_values, some_prices,
)


def parameters(function):
    """The names of the parameters; keywords stand behind a star."""
    told = []
    for name, parameter in inspect.signature(function).parameters.items():
        if parameter.kind is parameter.KEYWORD_ONLY and "*" not in told:
            told.append("*")
        told.append(name)
    return told


class IntegersTest(unittest.TestCase):
    def test_integers(self):
        for value in (0, 1, -1, SIXTY_DIGITS, -SIXTY_DIGITS):
            self.assertIs(is_number(value), True)

    def test_no_integers(self):
        for value in (True, False, None, "1", (1,), SIXTY_ONE_DIGITS, -SIXTY_ONE_DIGITS, HUNDRED_DIGITS):
            self.assertIs(is_number(value), False)

    def test_true_is_not_1_and_false_is_not_0(self):
        with self.assertRaises(InvalidNumber):
            next(words_upto(("a",), True))
        with self.assertRaises(InvalidNumber):
            next(words_upto(("a",), False))
        with self.assertRaises(InvalidNumber):
            Prices.even(("a",), True)
        with self.assertRaises(InvalidNumber):
            ONE.with_price(("swap", "a", "b"), True)
        with self.assertRaises(InvalidNumber):
            ONE.times(True)
        with self.assertRaises(InvalidPrices):
            Prices(put={"a": True}, out={"a": 1}, swap={})
        with self.assertRaises(InvalidPrices):
            Prices(put={"a": 1, "b": 1}, out={"a": 1, "b": 1}, swap={("a", "b"): True})

    def test_sixty_digits_and_more(self):
        with self.assertRaises(InvalidOperation):
            ONE.times(SIXTY_DIGITS)
        with self.assertRaises(InvalidNumber) as caught:
            ONE.times(SIXTY_ONE_DIGITS)
        self.assertEqual(caught.exception.given, SIXTY_ONE_DIGITS)


class InterfaceTest(unittest.TestCase):
    def test_parameters(self):
        self.assertEqual(parameters(is_sign), ["value"])
        self.assertEqual(parameters(is_word), ["value"])
        self.assertEqual(parameters(ordered), ["words"])
        self.assertEqual(parameters(words_upto), ["signs", "many"])
        self.assertEqual(parameters(Prices), ["*", "put", "out", "swap"])
        self.assertEqual(parameters(Prices.even), ["signs", "price"])
        self.assertEqual(parameters(SLOW.with_price), ["change", "price"])
        self.assertEqual(parameters(SLOW.is_at_most), ["other"])
        self.assertEqual(parameters(SLOW.limited), ["signs"])
        self.assertEqual(parameters(SLOW.times), ["many"])

    def test_everything_is_defined_where_it_is_listed(self):
        for function in (is_sign, is_word, ordered, words_upto):
            self.assertEqual(function.__module__, words.__name__)
        self.assertEqual(Prices.__module__, prices.__name__)
        for name in ("even", "signs", "put", "out", "swap", "smallest", "closed", "is_closed", "is_at_most",
                     "with_price", "limited", "times", "__contains__", "__len__", "__eq__", "__str__"):
            self.assertIn(name, vars(Prices))

    def test_kinds_of_results(self):
        self.assertIs(type(ordered(("b", "a"))), tuple)
        self.assertIs(type(SLOW.signs), tuple)
        for table in (SLOW.put, SLOW.out, SLOW.swap):
            self.assertIs(type(table), dict)
        for value in (is_sign(1), is_word(1), SLOW.is_closed(), SLOW.is_at_most(ONE)):
            self.assertIs(type(value), bool)


class NothingIsSharedTest(unittest.TestCase):
    def test_what_was_passed_can_be_changed(self):
        put, out, swap = {"a": 9, "b": 1}, {"a": 2, "b": 9}, {("b", "a"): 1}
        made = Prices(put=put, out=out, swap=swap)
        for table in (put, out, swap):
            table.clear()
        self.assertEqual(made, SLOW)

    def test_one_dict_for_put_and_out(self):
        table = {"a": 1, "b": 1}
        made = Prices(put=table, out=table, swap={})
        self.assertEqual(made.with_price(("put", "a"), 5).out, {"a": 1, "b": 1})
        self.assertEqual(ONE.with_price(("out", "a"), 5).put, {"a": 1, "b": 1})

    def test_what_was_returned_can_be_changed(self):
        for made in some_prices():
            before = (made.put, made.out, made.swap)
            for table in (made.put, made.out, made.swap, made.closed().put, made.times(1).out):
                table.clear()
                table["f"] = 77
            self.assertEqual((made.put, made.out, made.swap), before)

    def test_arguments_are_not_changed(self):
        put, out, swap = {"b": 9, "a": 1}, {"b": 2, "a": 9}, {("b", "a"): 1}
        Prices(put=put, out=out, swap=swap)
        self.assertEqual((list(put.items()), list(out), list(swap)), ([("b", 9), ("a", 1)], ["b", "a"], [("b", "a")]))
        for value in odd_values():
            before = copy.deepcopy(value)
            for use in (ordered, Prices.even, SLOW.limited, SLOW.times, SLOW.is_at_most, is_word, is_sign):
                try:
                    use(value)
                except (ValueError, IndexError):
                    pass
            self.assertEqual(value, before)

    def test_dicts_that_are_passed_stay_as_they_are(self):
        names, moves = {"b": "a", "a": "c"}, {"b": 0, "a": 1}
        states = ((moves, False), ({"b": 1}, True))
        table = {0: ((0, 1, 2), (1, 0, 1), (1, 1, 0))}
        PAIRS.renamed(names), Form(states), is_bound_table(ANY, THREES, ONE, 1, table)
        self.assertEqual(list(names.items()), [("b", "a"), ("a", "c")])
        self.assertEqual((list(moves.items()), states[1]), ([("b", 0), ("a", 1)], ({"b": 1}, True)))
        self.assertEqual(table, {0: ((0, 1, 2), (1, 0, 1), (1, 1, 0))})

    def test_every_value_can_be_judged_and_stays_as_it_is(self):
        judges = (
            is_pattern, is_least, lambda value: is_row(THREES, value), lambda value: is_mending("a", THREES, ONE, value),
            lambda value: is_bound_table(ANY, THREES, ONE, 1, value), lambda value: is_alignment("a", "ab", ONE, value),
            lambda value: is_least_changes("a", "ab", ONE, value), lambda value: value in PAIRS,
            lambda value: value in Rings(AHEAD), lambda value: value in ONE,
        )
        for value in odd_values():
            before = copy.deepcopy(value)
            for judge in judges:
                self.assertIs(type(judge(value)), bool)
            self.assertEqual(value, before)

    def test_prices_never_change(self):
        made = Prices.even(("a", "b", "c"), 2)
        made.closed(), made.times(2), made.limited(("a",)), made.with_price(("put", "a"), 1), made.is_closed()
        self.assertEqual(made, Prices.even(("a", "b", "c"), 2))
        for name in ("signs", "put", "out", "swap", "smallest"):
            with self.assertRaises(AttributeError):
                setattr(made, name, {})

    def test_a_refused_call_has_no_effect(self):
        made = Prices.even(("a", "b"))
        for call in (lambda: made.with_price(("put", "a"), 10), lambda: made.times(10), lambda: made.limited(("c",))):
            with self.assertRaises((InvalidNumber, InvalidOperation)):
                call()
        self.assertEqual(made, ONE)

    def test_equal_calls_return_equal_results(self):
        for made in some_prices():
            again = Prices(put=made.put, out=made.out, swap=made.swap)
            self.assertEqual(made, again)
            self.assertEqual(made.closed(), again.closed())
            self.assertEqual(str(made), str(again))
        self.assertEqual(list(words_upto(("a", "b"), 3)), list(words_upto(("a", "b"), 3)))


class OrderOfChecksTest(unittest.TestCase):
    def test_the_first_parameter_goes_first(self):
        for value in odd_values():
            if value != ("a",):
                with self.assertRaises(InvalidWord):
                    Prices.even(value, 0)
                with self.assertRaises(InvalidWord):
                    next(words_upto(value, -1))
            with self.assertRaises(InvalidChange):
                SLOW.with_price(value, 0)

    def test_then_means_later(self):
        with self.assertRaises(InvalidWord):
            SLOW.limited(("d", "c"))
        with self.assertRaises(InvalidOperation):
            SLOW.limited(("c", "d"))
        with self.assertRaises(InvalidNumber):
            SLOW.times(-5)
        with self.assertRaises(InvalidOperation):
            SLOW.times(5)
