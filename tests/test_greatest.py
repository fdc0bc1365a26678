import copy
import inspect
import unittest

from mendnumber.base.prices import Prices
from mendnumber.core.costs import cost, costs_by
from mendnumber.decide import greatest as module
from mendnumber.decide.greatest import (
    cost_limit, dearest_word, greatest_cost, is_close, is_mend_paper, mend_paper, spread,
)
from mendnumber.decide.tables import bound_table, costs_at_most, first_above
from mendnumber.errors import InvalidForm, InvalidOperation, InvalidPrices, TooMany
from mendnumber.forms.form import Form, is_least
from mendnumber.rings.chains import is_bounded
from oracles import check_order, cost_to, wrong_forms, wrong_prices
from pairs import (
    AHEAD, ANY, EMPTY, FIVE, FORK, LATE, LINE, ONE, PAIRS, ROUGH, SIX, SLOW, THREES, some_pairs, some_triples,
)
from papers import is_mend
from test_rows import SEVEN, SEVEN_C
from values import near, odd_values, words_of

TABLE = {0: ((0, 1, 2), (1, 0, 1), (1, 1, 0))}


def bounded_triples(step=1):
    return [triple for triple in some_triples(step) if is_bounded(*triple[:2])]


def at_least(number, other):
    """Whether a greatest cost is at least another one; a missing one counts as greater than each number."""
    return number is None or other is not None and number >= other


class GreatestTest(unittest.TestCase):
    def test_against_all_words_up_to_a_length(self):
        reached = 0
        for source, target, prices in bounded_triples():
            greatest, dearest = greatest_cost(source, target, prices), dearest_word(source, target, prices)
            words = words_of(source.states, {0: 9, 1: 12, 2: 6}.get(len(source.signs), 4))
            costs = {word: cost(word, target, prices) for word in words}
            self.assertEqual(cost_to(dearest, target, prices), greatest)
            self.assertIn(dearest, source)
            self.assertLessEqual(max(costs.values(), default=0), greatest)
            self.assertLessEqual(greatest, cost_limit(source, target, prices))
            wanted = [word for word in words if costs[word] == greatest][:1]
            if wanted or dearest in costs:
                reached += 1
                self.assertEqual([dearest], wanted)
        self.assertGreater(reached, 80)

    def test_against_costs_by(self):
        for source, target, prices in bounded_triples(2):
            costs = costs_by(source, target, prices, many=5)
            self.assertLessEqual(max(costs.values(), default=0), greatest_cost(source, target, prices))
            if source.is_finite() and len(source) <= 6:
                self.assertEqual(max(costs.values()), greatest_cost(source, target, prices))

    def test_against_tables(self):
        for source, target, prices in bounded_triples(2):
            greatest = greatest_cost(source, target, prices)
            if greatest <= 60:
                self.assertIs(costs_at_most(source, target, prices, greatest), True)
                if greatest:
                    self.assertEqual(first_above(source, target, prices, greatest - 1), dearest_word(source, target, prices))

    def test_not_bounded(self):
        many = 0
        for source, target, prices in some_triples():
            if not is_bounded(source, target):
                many += 1
                self.assertIs(greatest_cost(source, target, prices), None)
                for use in (dearest_word, spread):
                    with self.assertRaises(InvalidOperation):
                        use(source, target, prices)
        self.assertGreater(many, 60)

    def test_known_numbers(self):
        for source, target, prices, wanted, word in (
            (ANY, THREES, ONE, 1, "a"), (PAIRS, PAIRS, ONE, 0, ""), (FORK, LATE, FIVE, 1, ""), (LINE, EMPTY, FIVE, 3, "abc"),
            (EMPTY, LINE, FIVE, 2, ""), (ANY, SIX, ONE, 3, "aaa"), (ANY, AHEAD, SLOW, 0, ""), (LINE, EMPTY, ROUGH, 12, "abc"),
            (Form.of_words(("ab", "ba", "b")), Form.of_words(("a",)), SLOW, 3, "ab"), (THREES, SIX, ROUGH, 6, "aaa"),
        ):
            self.assertEqual((greatest_cost(source, target, prices), dearest_word(source, target, prices)), (wanted, word))
        self.assertEqual(greatest_cost(ANY, PAIRS, ONE), None)

    def test_great_numbers(self):
        nines = Prices.even(("a", "b"), 9).with_price(("swap", "a", "b"), 18)
        last = Form(tuple(({"b": at + 1}, False) for at in range(5)) + (({"a": 5}, True),))
        self.assertEqual(greatest_cost(ANY, last, nines), 45)
        line = Form.of_words(("aaaaa",))
        self.assertEqual(greatest_cost(line, Form.of_words(("bbbbb",)), nines), 90)
        self.assertEqual(cost_limit(line, Form.of_words(("bbbbb",)), nines), 7 * 5 * 9 + 5 * 9)
        self.assertTrue(is_mend_paper(line, last, nines, mend_paper(line, last, nines)))

    def test_limit(self):
        self.assertEqual(cost_limit(ANY, THREES, ONE), 4)
        self.assertEqual(cost_limit(SIX, ANY, ONE), 5)
        self.assertEqual(cost_limit(PAIRS, SIX, SLOW), 3 * 5 * 9 + 1 * 9)
        self.assertEqual(cost_limit(ANY, ANY, FIVE), 0)
        # The prices of signs that no form has count, too, and they are not closed.
        self.assertEqual(cost_limit(ANY, THREES, ROUGH), 2 * 2 * 9)
        self.assertEqual(cost_limit(THREES, ANY, ROUGH), 2 * 9)
        for source, target, prices in some_triples(5):
            self.assertEqual(cost_limit(source, target, prices), (len(source) + 1) * (len(target) - 1) * max(
                prices.put.values()) + (len(source) - 1) * max(prices.out.values()))


class PaperTest(unittest.TestCase):
    def test_papers(self):
        for source, target, prices in some_triples():
            paper = mend_paper(source, target, prices)
            self.assertTrue(is_mend(source, target, prices, paper))
            self.assertIs(is_mend_paper(source, target, prices, paper), True)
            self.assertEqual(paper[0], "bounded" if is_bounded(source, target) else "grows")
            if paper[0] == "bounded":
                self.assertEqual(paper[1], greatest_cost(source, target, prices))
                self.assertEqual(list(paper[3]), list(range(len(source))))
                self.assertLessEqual(len(paper[2]), 4000)
            self.assertEqual(mend_paper(source, target, prices), paper)

    def test_values_near_a_paper(self):
        for source, target, prices in (
            (ANY, THREES, ONE), (ANY, PAIRS, ONE), (LINE, PAIRS, ROUGH), (AHEAD, AHEAD, SLOW), (PAIRS, ANY, ROUGH), (FORK, LATE, FIVE),
        ):
            paper = mend_paper(source, target, prices)
            before = copy.deepcopy(paper)
            for value in near(paper) + odd_values():
                self.assertIs(is_mend_paper(source, target, prices, value), is_mend(source, target, prices, value), value)
            self.assertEqual(paper, before)

    def test_papers_that_the_program_did_not_make(self):
        for value, told in (
            (("bounded", 1, "aa", TABLE), True), (("bounded", 1, "a" * 4, TABLE), True), (("bounded", 1, "aaa", TABLE), False),
            (("bounded", True, "a", TABLE), False), (("bounded", 2, "aa", TABLE), False), (("bounded", 0, "", TABLE), False),
            (("bounded", 1, "b", TABLE), False), (("bounded", 1, "aa", {0: ((1, 1, 2), (2, 1, 1))}), False),
            (("bounded", 1, "a" * 8000, TABLE), True), (("bounded", 1, "aa", {0: ((0, 1, 2), (1, 0, 1), (1, 1, 0), (1, 1, 1))}), True),
            (("bounded", 1, "aa", {0: ((0, 1, 2), (1, 0, 1))}), False), (("bounded", 1, "aa", {0: ((0, 1, 2), (1, 1, 0), (2, 0, 0))}), False),
            (("bounded", 1, "aa", {0: ((0, 0, 0), (0, 1, 2), (1, 0, 1), (1, 1, 0))}), True), (("bounded", 1, "aa"), False),
            (("grows", ("", "a", "")), False), (("grow", 1, "aa", TABLE), False), (["bounded", 1, "aa", TABLE], False), ((), False),
        ):
            self.assertIs(is_mend_paper(ANY, THREES, ONE, value), told, value)
        self.assertIs(is_mend_paper(ANY, PAIRS, ONE, ("grows", ("", "aa", ""))), True)
        self.assertIs(is_mend_paper(ANY, PAIRS, ONE, ("grows", ("aa", "aaa", "a"))), True)
        self.assertIs(is_mend_paper(ANY, PAIRS, ONE, ("grows", ("", "a", ""))), False)
        self.assertIs(is_mend_paper(ANY, PAIRS, ONE, ("grows", ("", "aa", ""), 1)), False)

    def test_tables_of_one_number_only(self):
        for source, target, prices in bounded_triples(9):
            kind, number, word, table = mend_paper(source, target, prices)
            if number < 60:
                self.assertEqual(is_mend_paper(source, target, prices, (kind, number, word, bound_table(
                    source, target, prices, number))), True)
                self.assertIs(is_mend_paper(source, target, prices, (kind, number + 1, word, table)), False)
                self.assertIs(is_mend_paper(source, target, prices, (kind, number - 1, word, table)), False)


class SpreadTest(unittest.TestCase):
    def test_word_by_word(self):
        made = 0
        for source, target, prices in bounded_triples():
            longest = {0: 9, 1: 12, 2: 6}.get(len(source.signs), 4)
            try:
                forms = spread(source, target, prices)
            except TooMany as error:
                self.assertEqual(error.limit, 40)
                continue
            made += 1
            self.assertEqual(list(forms), sorted(forms))
            self.assertEqual(max(forms), greatest_cost(source, target, prices))
            self.assertTrue(all(is_least(form) for form in forms.values()))
            costs = {word: cost(word, target, prices) for word in words_of(source.states, longest)}
            for price, form in forms.items():
                self.assertEqual(words_of(form.states, longest), [word for word in costs if costs[word] == price])
                self.assertEqual(cost(form.first, target, prices), price)
            self.assertLessEqual(set(costs.values()), set(forms))
        self.assertGreater(made, 80)

    def test_known_spreads(self):
        found = spread(ANY, THREES, ONE)
        self.assertEqual((list(found), found[0]), ([0, 1], THREES))
        self.assertEqual(found[1], ANY - THREES)
        self.assertEqual(spread(PAIRS, PAIRS, ONE), {0: PAIRS})
        self.assertEqual(spread(LINE, EMPTY, FIVE), {2: Form.of_words(("ab",)), 3: Form.of_words(("abc",))})
        found.clear()
        self.assertEqual(len(spread(ANY, THREES, ONE)), 2)

    def test_forty_states_and_more(self):
        # Of a ring of the source with so many states the words with one cost need as many as both rings together.
        fives = Form(tuple(({"a": (at + 1) % 5}, at == 0) for at in range(5)))
        self.assertEqual(len(spread(SIX, fives, ONE)[0]), 30)
        both = Form(tuple(({"a": (at + 1) % 6, "b": at}, at == 0) for at in range(6)))
        other = Form(tuple(({"b": (at + 1) % 5, "a": at}, at == 0) for at in range(5)))
        self.assertEqual(len(spread(both, other, ONE)[0]), 30)
        wide = Form(tuple(({"a": (at + 1) % 6, "b": (at + 2) % 6}, at == 0) for at in range(6)))
        dear = Prices(put={"a": 9, "b": 9}, out={"a": 1, "b": 5}, swap={})
        with self.assertRaises(TooMany) as caught:
            spread(wide, wide.with_move(0, "a", 2).with_last(3, True), dear)
        self.assertEqual(caught.exception.limit, 40)
        source = Form((({"a": 2, "b": 4}, True), ({"a": 4, "b": 3}, True), ({"a": 5}, False), ({"a": 1, "b": 3}, False),
                       ({"a": 0, "b": 4}, False), ({"a": 1, "b": 2}, False)))
        target = Form((({"a": 2, "b": 2}, False), ({"a": 1, "b": 3}, False), ({"a": 0, "b": 1}, False),
                       ({"a": 4, "b": 3}, False), ({"a": 2, "b": 5}, True), ({"a": 5, "b": 0}, False)))
        self.assertEqual(max(len(form) for form in spread(source, target, ONE).values()), 40)


class CloseTest(unittest.TestCase):
    def test_close_forms(self):
        forms = sorted({id(form): form for pair in some_pairs()[::9] for form in pair}.items())[:14]
        forms = [form for _, form in forms]
        for one in forms:
            self.assertIs(is_close(one, one), True)
            for other in forms:
                told = is_bounded(one, other) and is_bounded(other, one)
                self.assertIs(is_close(one, other), told)
                if told:
                    for third in forms:
                        self.assertIs(is_close(one, third), is_close(other, third))
        self.assertIs(is_close(AHEAD, ANY), False)
        self.assertIs(is_close(ANY, THREES), True)


class LawsTest(unittest.TestCase):
    """What holds between greatest costs [11.2]."""

    def triples(self):
        forms = [pair[0] for pair in some_pairs()[::5]] + [ANY, THREES, AHEAD, FORK, LATE, EMPTY]
        return [(one, other, third) for one, other, third in zip(forms, forms[3:] + forms[:3], forms[11:] + forms[:11])]

    def test_a_third_form(self):
        for one, other, third in self.triples():
            for prices in (FIVE, ROUGH):
                parts = (greatest_cost(one, third, prices), greatest_cost(third, other, prices))
                whole = greatest_cost(one, other, prices)
                self.assertTrue(None in parts or at_least(sum(parts), whole))

    def test_either_form(self):
        for one, other, third in self.triples():
            if len(one | third) <= 6:
                parts = (greatest_cost(one, other, ROUGH), greatest_cost(third, other, ROUGH))
                wanted = None if None in parts else max(parts)
                self.assertEqual(greatest_cost(one | third, other, ROUGH), wanted)
                for part in (greatest_cost(other, one, ROUGH), greatest_cost(other, third, ROUGH)):
                    self.assertTrue(at_least(part, greatest_cost(other, one | third, ROUGH)))

    def test_one_form_behind_the_other(self):
        tried = 0
        for one, other, third in self.triples():
            if max(len(one), len(other), len(third)) <= 8 and max(len(self.behind(one, third)), len(self.behind(other, third))) <= 6:
                tried += 1
                first, second = greatest_cost(one, other, ROUGH), greatest_cost(third, third, ROUGH)
                self.assertTrue(first is None or at_least(first + second, greatest_cost(one + third, other + third, ROUGH)))
        self.assertGreater(tried, 5)

    def behind(self, one, other):
        try:
            return one + other
        except TooMany:
            return range(99)

    def test_backward_forms(self):
        tried = 0
        for source, target, prices in some_triples(2):
            back = (source.backward(), target.backward())
            if max(map(len, back)) <= 6:
                tried += 1
                self.assertEqual(greatest_cost(*back, prices), greatest_cost(source, target, prices))
        self.assertGreater(tried, 40)


class ErrorsTest(unittest.TestCase):
    def test_order(self):
        three = ((SEVEN, wrong_forms(), InvalidForm), (SEVEN_C, wrong_forms(), InvalidForm), (SLOW, wrong_prices(), InvalidPrices))
        uses = (greatest_cost, dearest_word, mend_paper, cost_limit, spread, lambda *given: is_mend_paper(*given, None))
        for use in uses:
            check_order(self, use, *three)
            for source, target in ((ANY, SEVEN_C), (SEVEN_C, ANY), (SEVEN, SEVEN_C), (FORK, ANY)):
                with self.assertRaises(InvalidOperation):
                    use(source, target, SLOW)
            for source, target in ((ANY, SEVEN), (SEVEN, ANY), (SEVEN, SEVEN)):
                with self.assertRaises(TooMany) as caught:
                    use(source, target, ONE)
                self.assertEqual(caught.exception.limit, 6)
        check_order(self, is_close, *three[:2])
        for one, other in ((SEVEN, ANY), (ANY, SEVEN)):
            with self.assertRaises(TooMany) as caught:
                is_close(one, other)
            self.assertEqual(caught.exception.limit, 6)

    def test_interface(self):
        three = (greatest_cost, dearest_word, mend_paper, cost_limit, spread)
        for function in three:
            self.assertEqual(str(inspect.signature(function)), "(source, target, prices)")
        self.assertEqual(str(inspect.signature(is_mend_paper)), "(source, target, prices, value)")
        self.assertEqual(str(inspect.signature(is_close)), "(one, other)")
        for function in (*three, is_mend_paper, is_close):
            self.assertEqual(function.__module__, module.__name__)
