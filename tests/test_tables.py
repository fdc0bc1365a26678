import copy
import inspect
import unittest

from mendnumber.base.prices import Prices
from mendnumber.core.rows import row_of
from mendnumber.decide import tables as module
from mendnumber.decide.tables import bound_table, costs_at_most, first_above, is_bound_table, level_form
from mendnumber.errors import InvalidForm, InvalidNumber, InvalidOperation, InvalidPrices, TooMany
from mendnumber.forms.form import Form, is_least
from oracles import check_order, cost_to, is_table, wrong_forms, wrong_numbers, wrong_prices
from test_rows import ALL, SEVEN, SEVEN_C, SIX, treated
from values import AHEAD, ANY, ONE, PAIRS, SLOW, THREES, near, odd_values, some_forms, words_of

TABLE = {0: ((0, 1, 2), (1, 0, 1), (1, 1, 0))}


def some_tasks():
    """Sources, targets and prices that can be treated together."""
    found = []
    for at, (source, prices) in enumerate(treated()):
        targets = [form for form in some_forms() if len(form) <= 6 and set(form.signs) <= set(prices.signs)]
        found.extend((source, target, prices) for target in (targets[at % len(targets)], targets[(3 * at + 1) % len(targets)]))
        found.append((source, source, prices))
    return found


def longest_for(source):
    return {0: 1, 1: 12, 2: 6}.get(len(source.signs), 4)


class AboveTest(unittest.TestCase):
    def test_against_all_words_of_the_source(self):
        for source, target, prices in some_tasks():
            costs = {word: cost_to(word, target, prices) for word in words_of(source.states, longest_for(source))[:60]}
            for most in (0, 1, 3, 9, 20):
                wanted = [word for word, price in costs.items() if price > most][:1]
                found = first_above(source, target, prices, most)
                self.assertIs(costs_at_most(source, target, prices, most), found is None)
                if wanted or found in costs:
                    self.assertEqual([found], wanted)
                if found is None:
                    self.check_table(source, target, prices, most)
                else:
                    self.assertGreater(cost_to(found, target, prices), most)
                    self.assertIn(found, source)
                    with self.assertRaises(InvalidOperation):
                        bound_table(source, target, prices, most)

    def check_table(self, source, target, prices, most):
        table = bound_table(source, target, prices, most)
        self.assertEqual(list(table), list(range(len(source))))
        self.assertTrue(is_table(source, target, prices, most, table))
        self.assertIs(is_bound_table(source, target, prices, most, table), True)
        self.assertEqual(bound_table(source, target, prices, most), table)

    def test_known_answers(self):
        self.assertIs(costs_at_most(ANY, THREES, ONE, 1), True)
        self.assertIs(costs_at_most(ANY, THREES, ONE, 0), False)
        self.assertIs(costs_at_most(ANY, PAIRS, ONE, 60), False)
        self.assertEqual(first_above(ANY, THREES, ONE, 0), "a")
        self.assertEqual(first_above(ANY, THREES, ONE, 1), None)
        self.assertEqual(first_above(ANY, PAIRS, ONE, 3), "a" * 7)
        self.assertEqual(first_above(ANY, PAIRS, ONE, 60), "a" * 121)
        self.assertEqual(first_above(PAIRS, ANY, ONE, 60), "ab" * 61)
        self.assertEqual(first_above(AHEAD, PAIRS, ONE, 1), "aaa")
        self.assertEqual(first_above(ANY, Form((({}, True),)), Prices.even(("a",), 9), 60), "a" * 7)

    def test_first_means_first(self):
        either = Form.all_of(("a", "b", "c"))
        self.assertEqual(first_above(either, Form((({}, True),)), ALL, 2), "aaa")
        self.assertEqual(first_above(either, Form.all_of(("a",)), ALL, 1), "bb")
        self.assertEqual(first_above(either, Form.all_of(("a", "b")), ALL, 2), "ccc")
        dear = ALL.with_price(("swap", "c", "a"), 18).with_price(("out", "c"), 9)
        self.assertEqual(first_above(either, Form.all_of(("a",)), dear, 2), "bc")
        self.assertEqual(first_above(Form.all_of(("a", "c")), Form.all_of(("a",)), dear, 2), "cc")

    def test_rows_where_all_numbers_grow_on_their_own(self):
        # Each word has its own row here, so that much has to be left out.
        apart = Form(tuple([({sign: at for at, sign in enumerate("abcde", 1)}, True)] + [
            ({sign: at}, True) for at, sign in enumerate("abcde", 1)]))
        self.assertEqual(first_above(Form.all_of(("a", "b")), apart, ALL, 20), "a" * 21 + "b" * 21)
        self.assertEqual(first_above(Form.all_of(("a", "b", "c")), apart, ALL, 7), "aaaabbbbcccc")
        row = Form(tuple(({sign: "abcde".index(sign) for sign in "abcde"[at:]}, True) for at in range(5)))
        self.assertIs(costs_at_most(row, row, ALL, 60), True)
        self.assertIs(is_bound_table(row, row, ALL, 60, bound_table(row, row, ALL, 60)), True)

    def test_rows_that_grow_without_end_are_cut(self):
        for source, target in ((ANY, AHEAD), (AHEAD, AHEAD), (ANY, ANY | Form.of_words(("b",)))):
            self.assertIs(costs_at_most(source, target, ONE, 60), True)
            self.assertEqual(first_above(source, target, ONE, 0), None)
            self.check_table(source, target, ONE, 0)
            self.check_table(source, target, ONE, 60)

    def test_least_and_greatest_numbers(self):
        for most in (0, 20, 21, 60):
            self.assertIs(costs_at_most(ANY, ANY, ONE, most), True)
        for most in (-1, 61):
            for use in (costs_at_most, first_above, bound_table, lambda *given: is_bound_table(*given, {})):
                with self.assertRaises(InvalidNumber):
                    use(ANY, ANY, ONE, most)


class TableTest(unittest.TestCase):
    def test_known_tables(self):
        self.assertIs(is_bound_table(ANY, THREES, ONE, 1, TABLE), True)
        self.assertIs(is_bound_table(ANY, THREES, ONE, 2, TABLE), True)
        self.assertIs(is_bound_table(ANY, THREES, ONE, 0, TABLE), False)
        self.assertIs(is_bound_table(ANY, THREES, ONE, 1, {0: ((0, 1, 1),)}), False)

    def test_tables_with_all_rows_and_with_few(self):
        for source, target, prices in some_tasks()[::3]:
            most = 60
            if costs_at_most(source, target, prices, most):
                rows = {}
                for word in words_of(source.states, longest_for(source))[:40]:
                    for length in range(len(word) + 1):
                        rows.setdefault(source.walk(word)[length], set()).add(row_of(target, prices, word[:length]))
                table = bound_table(source, target, prices, most)
                more = {
                    state: tuple(sorted(set(table[state]) | {tuple(min(one, 61) for one in row) for row in rows.get(state, ())}))
                    for state in table
                }
                self.assertIs(is_bound_table(source, target, prices, most, more),
                              is_table(source, target, prices, most, more))
                self.assertIs(is_bound_table(source, target, prices, most, dict(reversed(more.items()))), True)

    def test_tables_near_a_right_one(self):
        for source, target, prices, most in (
            (ANY, THREES, ONE, 1), (AHEAD, AHEAD, SLOW, 2), (PAIRS, PAIRS, ONE, 0), (ANY, THREES, ONE, 60),
            (Form.of_words(("ab", "b")), PAIRS, SLOW, 12),
        ):
            table = bound_table(source, target, prices, most)
            before = copy.deepcopy(table)
            for value in near(table) + odd_values() + [{}, {0: ()}, {False: table[0]}, {0: [table[0]]}]:
                self.assertIs(is_bound_table(source, target, prices, most, value),
                              is_table(source, target, prices, most, value))
            self.assertEqual(table, before)

    def test_rows_without_need_can_stand_in_a_table(self):
        self.assertIs(is_bound_table(ANY, THREES, ONE, 1, {0: tuple(sorted(TABLE[0] + ((0, 0, 0),)))}), True)
        self.assertIs(is_bound_table(ANY, THREES, ONE, 1, {0: tuple(sorted(TABLE[0] + ((1, 2, 2),)))}), False)
        self.assertIs(is_bound_table(ANY, THREES, ONE, 2, {0: ((2, 2, 2),)}), True)
        self.assertIs(is_bound_table(ANY, THREES, ONE, 1, {0: ((2, 2, 2),)}), False)
        self.assertIs(is_bound_table(ANY, ANY, ONE, 3, {0: ((3,),)}), True)
        self.assertIs(is_bound_table(ANY, ANY, ONE, 3, {0: ((4,),)}), False)
        self.assertIs(is_bound_table(ANY, ANY, ONE, 3, {0: ((5,),)}), False)

    def test_kinds_of_tables(self):
        for value in (
            {True: TABLE[0]}, {False: TABLE[0]}, {0: TABLE[0][::-1]}, {0: TABLE[0] + TABLE[0][-1:]}, {0: list(TABLE[0])},
            {0: ()}, {}, {0: TABLE[0], 1: TABLE[0]}, {1: TABLE[0]}, {0: ((False, 1, 2), (1, 0, 1), (1, 1, 0))},
            {0: ((0, True, 2), (1, 0, 1), (1, 1, 0))}, {0: ([0, 1, 2], (1, 0, 1), (1, 1, 0))}, {0: ((0, 1, 3), *TABLE[0][1:])},
            {0: TABLE[0] + ((2, 0),)}, {0: TABLE[0] + ((2, 0, 0, 0),)}, {"0": TABLE[0]}, {0: None}, {0: (None,)},
            {0: ((-1, 1, 2), *TABLE[0])}, {0: (*TABLE[0], (10 ** 60, 0, 0))}, tuple(TABLE.items()), None,
        ):
            self.assertIs(is_table(ANY, THREES, ONE, 1, value), False)
            self.assertIs(is_bound_table(ANY, THREES, ONE, 1, value), False)

    def test_what_was_returned_can_be_changed(self):
        table = bound_table(ANY, THREES, ONE, 1)
        table.clear()
        self.assertIs(is_bound_table(ANY, THREES, ONE, 1, bound_table(ANY, THREES, ONE, 1)), True)


class LevelTest(unittest.TestCase):
    def test_word_by_word(self):
        for source, target, prices in some_tasks():
            costs = {word: cost_to(word, target, prices) for word in words_of(source.states, longest_for(source))[:40]}
            longest = max(map(len, costs), default=0)
            for most in (0, 1, 4):
                wanted = [word for word in costs if costs[word] <= most]
                try:
                    level = level_form(source, target, prices, most)
                except InvalidOperation:
                    self.assertEqual(wanted, [])
                except TooMany as error:
                    self.assertEqual(error.limit, 40)
                else:
                    self.assertIs(is_least(level), True)
                    found = [word for word in words_of(level.states, longest) if word in costs]
                    self.assertEqual(found, wanted)
                    for word in list(level.words(8))[-3:]:
                        self.assertTrue(word in source and cost_to(word, target, prices) <= most)

    def test_known_levels(self):
        self.assertEqual(level_form(ANY, THREES, ONE, 0), THREES)
        self.assertEqual(level_form(ANY, THREES, ONE, 1), ANY)
        self.assertEqual(level_form(ANY, THREES, ONE, 20), ANY)
        self.assertEqual(level_form(ANY, PAIRS, ONE, 2), Form.of_words(("", "a", "aa", "aaa", "aaaa", "aaaaa")[:5]))
        self.assertEqual(level_form(ANY, Form((({}, True),)), ONE, 20), Form.of_words(tuple("a" * many for many in range(21))))

    def test_errors(self):
        with self.assertRaises(InvalidOperation):
            level_form(Form.of_words(("aaa",)), Form.of_words(("b",)), ONE, 2)
        self.assertEqual(level_form(Form.of_words(("aaa",)), Form.of_words(("b",)), ONE, 3), Form.of_words(("aaa",)))
        with self.assertRaises(TooMany) as caught:
            level_form(Form.all_of(("a", "b")), PAIRS, ONE, 20)
        self.assertEqual(caught.exception.limit, 40)
        two = Prices.even(("a",), 1)
        self.assertEqual(len(level_form(ANY, Form.of_words(("a" * 5,)), two, 20)), 26)
        for most in (21, 60, 61, -1):
            with self.assertRaises(InvalidNumber) as caught:
                level_form(ANY, SEVEN, ONE, most)
            self.assertEqual(caught.exception.given, most)


class ErrorsTest(unittest.TestCase):
    def test_order(self):
        forms, prices = wrong_forms(), wrong_prices()
        three = ((SEVEN, forms, InvalidForm), (SEVEN_C, forms, InvalidForm), (SLOW, prices, InvalidPrices))
        for use in (costs_at_most, first_above, bound_table, lambda *given: is_bound_table(*given, None)):
            check_order(self, use, *three, (3, wrong_numbers(0, 60), InvalidNumber))
        check_order(self, level_form, *three, (3, wrong_numbers(0, 20), InvalidNumber))

    def test_signs_without_a_price_and_seven_states(self):
        for use in (costs_at_most, first_above, bound_table, level_form, lambda *given: is_bound_table(*given, TABLE)):
            for source, target in ((ANY, SEVEN_C), (SEVEN_C, ANY), (SEVEN, SEVEN_C), (SEVEN_C, SEVEN),
                                   (SIX.renamed({"a": "c"}), ANY)):
                with self.assertRaises(InvalidOperation):
                    use(source, target, SLOW, 3)
            for source, target in ((ANY, SEVEN), (SEVEN, ANY), (SEVEN, SEVEN)):
                for prices in (ONE, ALL):
                    with self.assertRaises(TooMany) as caught:
                        use(source, target, prices, 0)
                    self.assertEqual(caught.exception.limit, 6)
        self.assertIs(costs_at_most(SIX, SIX, ONE, 0), True)
        self.assertEqual(level_form(SIX, SIX, ALL, 3), SIX)
        with self.assertRaises(InvalidOperation):
            bound_table(ANY, SIX, ONE, 2)
        self.assertEqual(first_above(ANY, SIX, ONE, 2), "aaa")

    def test_interface(self):
        four = "(source, target, prices, most)"
        wanted = {
            costs_at_most: four, first_above: four, bound_table: four, level_form: four,
            is_bound_table: "(source, target, prices, most, value)",
        }
        for function, told in wanted.items():
            self.assertEqual(str(inspect.signature(function)), told)
            self.assertEqual(function.__module__, module.__name__)
        self.assertEqual(module.MAX_MOST, 60)
