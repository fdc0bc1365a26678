import heapq
import itertools
import unittest

from mendnumber.base.prices import Prices
from mendnumber.base.words import words_upto
from mendnumber.errors import InvalidChange, InvalidNumber, InvalidOperation, InvalidPrices, InvalidWord
from values import (
    HUNDRED_DIGITS, ONE, SIXTY_DIGITS, SIXTY_ONE_DIGITS, SLOW, WRONG_SIGNS, odd_values, some_prices,
)

ALL = ("a", "b", "c", "d", "e")
WRONG_PRICES = [0, -1, 10, None, True, False, "1", (1,), [1], {}, SIXTY_DIGITS, SIXTY_ONE_DIGITS, -HUNDRED_DIGITS]


def single_changes(word, prices):
    """All words behind one change that has a price, with this price."""
    for at in range(len(word) + 1):
        for sign, price in prices.put.items():
            yield word[:at] + sign + word[at:], price
    for at, sign in enumerate(word):
        yield word[:at] + word[at + 1:], prices.out[sign]
        for (one, other), price in prices.swap.items():
            if one == sign:
                yield word[:at] + other + word[at + 1:], price


def costs_from(word, prices, longest):
    """The costs from a word to all words of at most so many signs, found over such words alone."""
    costs, queue = {}, [(0, word)]
    while queue:
        price, word = heapq.heappop(queue)
        if word not in costs:
            costs[word] = price
            for other, more in single_changes(word, prices):
                if len(other) <= longest:
                    heapq.heappush(queue, (price + more, other))
    return costs


class MakingTest(unittest.TestCase):
    def test_what_is_passed_is_told(self):
        self.assertEqual(SLOW.signs, ("a", "b"))
        self.assertEqual(SLOW.put, {"a": 9, "b": 1})
        self.assertEqual(SLOW.out, {"a": 2, "b": 9})
        self.assertEqual(SLOW.swap, {("b", "a"): 1})
        self.assertEqual(SLOW.smallest, 1)

    def test_one_sign(self):
        prices = Prices(put={"d": 9}, out={"d": 1}, swap={})
        self.assertEqual((prices.signs, prices.put, prices.out, prices.swap), (("d",), {"d": 9}, {"d": 1}, {}))
        self.assertEqual((len(prices), str(prices)), (1, "prices of 1 signs, 0 swaps"))

    def test_five_signs_with_all_swaps(self):
        swap = {pair: 18 for pair in itertools.permutations("abcde", 2)}
        prices = Prices(put=dict.fromkeys("abcde", 9), out=dict.fromkeys("abcde", 1), swap=swap)
        self.assertEqual(prices.swap, swap)
        self.assertEqual(str(prices), "prices of 5 signs, 20 swaps")

    def test_dicts_are_ascending_in_whatever_order_they_were_passed(self):
        put = {"c": 1, "a": 2, "b": 3}
        out = {"b": 4, "c": 5, "a": 6}
        swap = {("c", "a"): 7, ("b", "a"): 8, ("a", "c"): 9, ("a", "b"): 18}
        prices = Prices(swap=swap, out=out, put=put)
        self.assertEqual(prices.signs, ("a", "b", "c"))
        self.assertEqual(list(prices.put.items()), [("a", 2), ("b", 3), ("c", 1)])
        self.assertEqual(list(prices.out.items()), [("a", 6), ("b", 4), ("c", 5)])
        self.assertEqual(list(prices.swap.items()), sorted(swap.items()))
        for table in (prices.closed().put, prices.closed().out, prices.closed().swap):
            self.assertEqual(list(table), sorted(table))
        self.assertEqual(prices, Prices(put=dict(sorted(put.items())), out=out, swap=dict(sorted(swap.items()))))

    def test_arguments_are_keywords(self):
        with self.assertRaises(TypeError):
            Prices({"a": 1}, {"a": 1}, {})

    def test_least_and_greatest_prices(self):
        swap = {("a", "b"): 1, ("b", "a"): 18}
        prices = Prices(put={"a": 1, "b": 9}, out={"a": 9, "b": 1}, swap=swap)
        self.assertEqual(prices.swap, swap)


class WrongTablesTest(unittest.TestCase):
    def refused(self, put={"a": 1, "b": 1}, out={"a": 1, "b": 1}, swap={("a", "b"): 1}):
        with self.subTest(repr((put, out, swap))[:60]), self.assertRaises(InvalidPrices):
            Prices(put=put, out=out, swap=swap)

    def test_wrong_put_and_out_prices(self):
        for price in WRONG_PRICES:
            self.refused(put={"a": 1, "b": price})
            self.refused(out={"a": price, "b": 1})

    def test_wrong_swap_prices(self):
        for price in [0, -1, 19, None, True, False, "1", (1,), SIXTY_DIGITS, SIXTY_ONE_DIGITS, HUNDRED_DIGITS]:
            self.refused(swap={("a", "b"): price})
            self.refused(swap={("a", "b"): 1, ("b", "a"): price})

    def test_wrong_signs(self):
        self.refused(put={}, out={}, swap={})
        self.refused(put={"a": 1}, swap={})
        self.refused(out={"a": 1}, swap={})
        self.refused(put={"a": 1, "c": 1}, swap={})
        six = dict.fromkeys("abcdef", 1)
        self.refused(put=six, out=six, swap={})
        for sign in ("f", "", "ab", "A", 1, True, None, ("a",)):
            table = {"a": 1, sign: 1}
            self.refused(put=table, out=table, swap={})
            self.refused(put=table, swap={})

    def test_wrong_pairs(self):
        for pair in ["ab", "a", ("a",), (), ("a", "b", "a"), ("a", "a"), ("a", "c"), ("c", "a"), ("a", 1), 1, None,
                     True, ("a", ""), (("a",), "b"), ("a", ("b", ("a",)))]:
            self.refused(swap={pair: 1})
            self.refused(swap={("a", "b"): 1, pair: 1})

    def test_odd_values_and_several_wrong_ones(self):
        for value in odd_values():
            self.refused(put=value)
            self.refused(out=value)
            self.refused(put=value, out=value, swap=value)
            if value != {} and value != {("a", "b"): 1}:
                self.refused(swap=value)

    def test_a_list_of_pairs_is_no_dict(self):
        self.refused(put=[("a", 1), ("b", 1)])
        self.refused(swap=[])
        self.refused(swap=())


class EvenTest(unittest.TestCase):
    def test_one_price_for_all(self):
        prices = Prices.even(("a", "c", "e"), 7)
        self.assertEqual(prices.signs, ("a", "c", "e"))
        self.assertEqual((prices.put, prices.out), ({"a": 7, "c": 7, "e": 7}, {"a": 7, "c": 7, "e": 7}))
        self.assertEqual(prices.swap, {pair: 7 for pair in itertools.permutations("ace", 2)})
        self.assertEqual(prices, Prices.even(("a", "c", "e"), price=7))

    def test_the_price_is_1_if_none_is_told(self):
        self.assertEqual(Prices.even(ALL), Prices.even(ALL, 1))
        self.assertEqual(Prices.even(ALL).smallest, 1)

    def test_one_and_five_signs(self):
        self.assertEqual(Prices.even(("b",), 9), Prices(put={"b": 9}, out={"b": 9}, swap={}))
        self.assertEqual(str(Prices.even(ALL, 9)), "prices of 5 signs, 20 swaps")

    def test_wrong_signs(self):
        for signs in WRONG_SIGNS:
            with self.subTest(repr(signs)[:30]), self.assertRaises(InvalidWord):
                Prices.even(signs)
        for value in odd_values():
            if value != ("a",):
                with self.subTest(repr(value)[:30]), self.assertRaises(InvalidWord):
                    Prices.even(value, value)

    def test_wrong_prices(self):
        for price in WRONG_PRICES:
            with self.subTest(repr(price)[:30]), self.assertRaises(InvalidNumber) as caught:
                Prices.even(("a", "b"), price)
            self.assertIs(caught.exception.given, price)

    def test_signs_are_checked_first(self):
        with self.assertRaises(InvalidWord):
            Prices.even(("b", "a"), 0)


class ClosedTest(unittest.TestCase):
    def test_closed_prices_are_costs(self):
        for prices in some_prices():
            closed = prices.closed()
            longest = 2 if len(prices) < 4 else 1
            from_nothing = costs_from("", prices, longest)
            self.assertEqual(closed.signs, prices.signs)
            self.assertEqual(closed.put, {sign: from_nothing[sign] for sign in prices.signs})
            for sign in prices.signs:
                costs = costs_from(sign, prices, longest)
                self.assertEqual(closed.out[sign], costs[""])
                for other in prices.signs:
                    self.assertEqual(closed.swap.get((sign, other), 0), costs[other])

    def test_all_swaps_are_there_and_all_are_prices(self):
        for prices in some_prices():
            closed = prices.closed()
            self.assertIsInstance(closed, Prices)
            self.assertEqual(list(closed.swap), list(itertools.permutations(prices.signs, 2)))
            self.assertLessEqual(max([0, *closed.swap.values()]), 18)

    def test_all_costs_are_the_same_with_closed_prices(self):
        for prices in some_prices():
            if len(prices) < 4:
                for word in words_upto(prices.signs, 2):
                    self.assertEqual(costs_from(word, prices, 2), costs_from(word, prices.closed(), 2))

    def test_a_way_between_is_never_less(self):
        for prices in some_prices():
            closed = prices.closed()
            costs = {(sign, sign): 0 for sign in ("", *prices.signs)}
            costs.update(closed.swap)
            costs.update({("", sign): price for sign, price in closed.put.items()})
            costs.update({(sign, ""): price for sign, price in closed.out.items()})
            for one, via, other in itertools.product(("", *prices.signs), repeat=3):
                self.assertLessEqual(costs[one, other], costs[one, via] + costs[via, other])
                self.assertEqual(costs[one, other] == 0, one == other)

    def test_a_sign_is_put_in_place_of_a_dear_swap(self):
        prices = Prices(put={"a": 9, "b": 2}, out={"a": 3, "b": 9}, swap={("a", "b"): 18})
        self.assertEqual(prices.closed().swap, {("a", "b"): 5, ("b", "a"): 18})

    def test_a_chain_of_swaps(self):
        chain = {("a", "b"): 1, ("b", "c"): 1, ("c", "d"): 1, ("d", "e"): 1}
        prices = Prices(put=dict(zip(ALL, (1, 9, 9, 9, 9))), out=dict(zip(ALL, (9, 9, 9, 9, 1))), swap=chain)
        self.assertEqual(prices.closed().put, {"a": 1, "b": 2, "c": 3, "d": 4, "e": 5})
        self.assertEqual(prices.closed().out, {"a": 5, "b": 4, "c": 3, "d": 2, "e": 1})
        self.assertEqual(prices.closed().swap["a", "e"], 4)
        self.assertEqual(prices.closed().swap["e", "a"], 2)

    def test_is_closed(self):
        for prices in some_prices():
            self.assertIs(prices.closed().is_closed(), True)
            self.assertEqual(prices.closed().closed(), prices.closed())
            self.assertIs(prices.is_closed(), prices == prices.closed())
        self.assertIs(SLOW.is_closed(), False)
        self.assertIs(ONE.is_closed(), True)
        self.assertIs(Prices.even(("a",), 5).is_closed(), True)

    def test_prices_without_a_swap_are_not_closed(self):
        self.assertIs(ONE.with_price(("swap", "a", "b"), None).is_closed(), False)

    def test_smallest(self):
        self.assertEqual(Prices(put={"a": 3}, out={"a": 4}, swap={}).smallest, 3)
        self.assertEqual(Prices(put={"a": 9}, out={"a": 8}, swap={}).smallest, 8)
        self.assertEqual(Prices.even(("a", "b"), 5).with_price(("swap", "b", "a"), 2).smallest, 2)
        for prices in some_prices():
            told = [*prices.put.values(), *prices.out.values(), *prices.swap.values()]
            self.assertEqual(prices.smallest, min(told))
            self.assertGreaterEqual(prices.closed().smallest, prices.smallest)


class AtMostTest(unittest.TestCase):
    def test_closed_prices_are_compared(self):
        dear = SLOW.with_price(("put", "a"), 8)
        self.assertIs(SLOW.is_at_most(dear), True)
        self.assertIs(dear.is_at_most(SLOW), True)
        self.assertIs(SLOW.is_at_most(SLOW.closed()), True)
        self.assertIs(SLOW.closed().is_at_most(SLOW), True)

    def test_each_kind_of_change_counts(self):
        even = Prices.even(("a", "b"), 4)
        for change in (("put", "b"), ("out", "a"), ("swap", "a", "b"), ("swap", "b", "a")):
            less = even.with_price(change, 3)
            self.assertIs(less.is_at_most(even), True)
            self.assertIs(even.is_at_most(less), False)

    def test_prices_that_are_neither_less_nor_greater(self):
        one = Prices(put={"a": 1}, out={"a": 2}, swap={})
        other = Prices(put={"a": 2}, out={"a": 1}, swap={})
        self.assertIs(one.is_at_most(other), False)
        self.assertIs(other.is_at_most(one), False)

    def test_other_signs(self):
        for one, other in itertools.permutations([("a",), ("b",), ("a", "b"), ALL], 2):
            self.assertIs(Prices.even(one).is_at_most(Prices.even(other, 9)), False)

    def test_wrong_others(self):
        for value in odd_values():
            if not isinstance(value, Prices):
                with self.subTest(repr(value)[:30]), self.assertRaises(InvalidPrices):
                    SLOW.is_at_most(value)


class WithPriceTest(unittest.TestCase):
    def test_each_kind_of_change(self):
        changed = SLOW.with_price(("put", "a"), 5)
        self.assertEqual((changed.put, changed.out, changed.swap), ({"a": 5, "b": 1}, SLOW.out, SLOW.swap))
        changed = SLOW.with_price(("out", "b"), 1)
        self.assertEqual((changed.put, changed.out, changed.swap), (SLOW.put, {"a": 2, "b": 1}, SLOW.swap))
        changed = SLOW.with_price(("swap", "b", "a"), 18)
        self.assertEqual((changed.put, changed.out, changed.swap), (SLOW.put, SLOW.out, {("b", "a"): 18}))

    def test_a_new_swap_and_none(self):
        changed = SLOW.with_price(("swap", "a", "b"), 2)
        self.assertEqual(list(changed.swap.items()), [(("a", "b"), 2), (("b", "a"), 1)])
        self.assertEqual(changed.with_price(("swap", "a", "b"), None), SLOW)
        self.assertEqual(SLOW.with_price(("swap", "b", "a"), None).swap, {})
        self.assertEqual(SLOW.with_price(("swap", "a", "b"), None), SLOW)

    def test_elder_prices_stay(self):
        SLOW.with_price(("put", "a"), 5).with_price(("swap", "b", "a"), None)
        self.assertEqual(SLOW, Prices(put={"a": 9, "b": 1}, out={"a": 2, "b": 9}, swap={("b", "a"): 1}))

    def test_wrong_changes(self):
        for change in [("put",), ("put", "c"), ("put", "a", "b"), ("out", 1), ("out", None), ("swap", "a"), ("swap",),
                       ("swap", "a", "a"), ("swap", "a", "c"), ("swap", "c", "a"), ("swap", "a", "b", "a"),
                       ("swap", ("a", "b")), ("Put", "a"), ("keep", "a"), ("a", "put"), ("put", 0, "a"), ("put", "")]:
            with self.subTest(repr(change)), self.assertRaises(InvalidChange):
                SLOW.with_price(change, 5)
        for value in odd_values():
            with self.subTest(repr(value)[:30]), self.assertRaises(InvalidChange):
                SLOW.with_price(value, value)

    def test_wrong_prices(self):
        for price in WRONG_PRICES:
            for kind in ("put", "out"):
                with self.subTest(repr(price)[:30]), self.assertRaises(InvalidNumber) as caught:
                    SLOW.with_price((kind, "a"), price)
                self.assertIs(caught.exception.given, price)
        for price in [0, -1, 19, True, False, "1", (1,), [1], {}, SIXTY_DIGITS, SIXTY_ONE_DIGITS]:
            with self.subTest(repr(price)[:30]), self.assertRaises(InvalidNumber) as caught:
                SLOW.with_price(("swap", "a", "b"), price)
            self.assertIs(caught.exception.given, price)

    def test_the_change_is_checked_first(self):
        with self.assertRaises(InvalidChange):
            SLOW.with_price(("put", "c"), 0)


class LimitedTest(unittest.TestCase):
    def test_these_signs_alone(self):
        prices = Prices.even(("a", "b", "d"), 3).with_price(("swap", "d", "a"), 1).with_price(("swap", "a", "d"), None)
        less = prices.limited(("a", "d"))
        self.assertEqual(less, Prices(put={"a": 3, "d": 3}, out={"a": 3, "d": 3}, swap={("d", "a"): 1}))
        self.assertEqual(prices.limited(("b",)), Prices.even(("b",), 3))
        self.assertEqual(prices.limited(prices.signs), prices)
        self.assertEqual(prices.signs, ("a", "b", "d"))

    def test_prices_are_not_closed_first(self):
        self.assertEqual(SLOW.limited(("a",)), Prices(put={"a": 9}, out={"a": 2}, swap={}))

    def test_wrong_signs(self):
        for value in WRONG_SIGNS + odd_values():
            if value != ("a",):
                with self.subTest(repr(value)[:30]), self.assertRaises(InvalidWord):
                    SLOW.limited(value)

    def test_signs_without_prices(self):
        for signs in [("c",), ("a", "c"), ("a", "b", "c"), ALL]:
            with self.subTest(signs), self.assertRaises(InvalidOperation):
                SLOW.limited(signs)

    def test_wrong_signs_go_ahead_of_signs_without_prices(self):
        with self.assertRaises(InvalidWord):
            SLOW.limited(("c", "a"))


class TimesTest(unittest.TestCase):
    def test_all_prices_so_many_times(self):
        prices = Prices(put={"a": 1, "b": 3}, out={"a": 2, "b": 1}, swap={("a", "b"): 6})
        self.assertEqual(
            prices.times(3), Prices(put={"a": 3, "b": 9}, out={"a": 6, "b": 3}, swap={("a", "b"): 18})
        )
        self.assertEqual(prices.times(1), prices)
        self.assertEqual(prices.put, {"a": 1, "b": 3})
        self.assertEqual(ONE.times(9), Prices.even(("a", "b"), 9))

    def test_prices_that_would_be_too_great(self):
        for prices, many in [
            (SLOW, 2), (ONE, 10), (Prices(put={"a": 1}, out={"a": 5}, swap={}), 2),
            (Prices(put={"a": 5}, out={"a": 1}, swap={}), 2), (ONE.with_price(("swap", "a", "b"), 10), 2),
            (ONE, SIXTY_DIGITS),
        ]:
            with self.subTest(many), self.assertRaises(InvalidOperation):
                prices.times(many)

    def test_wrong_numbers(self):
        for many in [0, -1, None, True, False, "2", (2,), [2], {}, SLOW, SIXTY_ONE_DIGITS, HUNDRED_DIGITS, -SIXTY_DIGITS]:
            with self.subTest(repr(many)[:30]), self.assertRaises(InvalidNumber) as caught:
                ONE.times(many)
            self.assertIs(caught.exception.given, many)
        for value in odd_values():
            if value not in (100, SIXTY_DIGITS):
                with self.subTest(repr(value)[:30]), self.assertRaises(InvalidNumber):
                    SLOW.times(value)


class OperatorsTest(unittest.TestCase):
    def test_in(self):
        self.assertIs("a" in SLOW, True)
        self.assertIs("b" in SLOW, True)
        for value in ["c", "", "ab", 0, ("a", "b"), *odd_values()]:
            if value != "a":
                with self.subTest(repr(value)[:30]):
                    self.assertIs(value in SLOW, False)

    def test_len(self):
        self.assertEqual([len(Prices.even(ALL[:many])) for many in range(1, 6)], [1, 2, 3, 4, 5])

    def test_equal(self):
        same = Prices(put={"b": 1, "a": 9}, out={"b": 9, "a": 2}, swap={("b", "a"): 1})
        self.assertIs(SLOW == same, True)
        self.assertIs(SLOW != same, False)

    def test_unequal(self):
        others = [
            SLOW.with_price(("put", "a"), 8), SLOW.with_price(("out", "a"), 1), SLOW.with_price(("swap", "b", "a"), 2),
            SLOW.with_price(("swap", "b", "a"), None), SLOW.with_price(("swap", "a", "b"), 3), SLOW.closed(), ONE,
        ]
        for value in others + [value for value in odd_values() if value is not SLOW]:
            with self.subTest(repr(value)[:30]):
                self.assertIs(SLOW == value, False)
                self.assertIs(SLOW != value, True)
                self.assertIs(value == SLOW, False)
                self.assertIs(value != SLOW, True)

    def test_str(self):
        self.assertEqual(str(ONE), "prices of 2 signs, 2 swaps")
        self.assertEqual(str(SLOW), "prices of 2 signs, 1 swaps")

    def test_no_iteration(self):
        for use in (iter, list, tuple, set, lambda prices: [*prices]):
            with self.assertRaises(TypeError):
                use(SLOW)
