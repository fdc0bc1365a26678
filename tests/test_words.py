import itertools
import tracemalloc
import unittest

from mendnumber.base import words
from mendnumber.base.words import is_sign, is_word, ordered, words_upto
from mendnumber.errors import InvalidNumber, InvalidWord
from values import HUNDRED_DIGITS, SIXTY_DIGITS, SIXTY_ONE_DIGITS, WRONG_SIGNS, odd_values

WRONG_COUNTS = [-1, 9, None, True, False, "1", (1,), [1], {}, SIXTY_DIGITS, SIXTY_ONE_DIGITS, -HUNDRED_DIGITS]


class ConstantsTest(unittest.TestCase):
    def test_constants(self):
        self.assertEqual(words.SIGNS, "abcde")
        self.assertEqual(words.MAX_WORD, 1000)


class JudgingTest(unittest.TestCase):
    def test_signs(self):
        for sign in "abcde":
            self.assertIs(is_sign(sign), True)
        for value in ["", "f", "A", "ab", "abcde", "aa", " ", "a ", "\n", "a\n", 0, 1, True, None, ("a",), ["a"], {}]:
            with self.subTest(repr(value)):
                self.assertIs(is_sign(value), False)

    def test_words(self):
        for value in ["", "a", "e", "edcba", "abcde" * 200, "a" * 1001, "ba" * 4500, "c" * 1000000]:
            self.assertIs(is_word(value), True)

    def test_no_words(self):
        for value in ["f", "A", "abf", "fab", "afb", "a b", " ", "a\n", "\na", "a" * 9000 + "f", "a" * 400 + " " + "b"]:
            with self.subTest(value[:9]):
                self.assertIs(is_word(value), False)
        for value in [None, True, False, 0, 7, (), ("a",), [], ["a"], {}, {"a": 1}]:
            with self.subTest(repr(value)):
                self.assertIs(is_word(value), False)

    def test_every_value_is_judged(self):
        for value in odd_values():
            self.assertIs(is_word(value), isinstance(value, str) and set(value) <= set("abcde"))
            self.assertIs(is_sign(value), is_word(value) and len(value) == 1)


class OrderedTest(unittest.TestCase):
    def test_lengths_go_ahead_of_letters(self):
        self.assertEqual(ordered(("ba", "c", "ab", "", "e", "aaa")), ("", "c", "e", "ab", "ba", "aaa"))

    def test_each_word_stands_once(self):
        self.assertEqual(ordered(("b", "a", "b", "", "a", "")), ("", "a", "b"))

    def test_few_words(self):
        self.assertEqual(ordered(()), ())
        self.assertEqual(ordered(("",)), ("",))

    def test_long_words(self):
        self.assertEqual(ordered(("b" * 5000, "a" * 5001, "a" * 5000)), ("a" * 5000, "b" * 5000, "a" * 5001))

    def test_all_orders_give_the_same(self):
        for row in itertools.permutations(("", "b", "aa", "ab", "aaa")):
            self.assertEqual(ordered(row), ("", "b", "aa", "ab", "aaa"))

    def test_wrong_words(self):
        for value in [None, True, 1, "ab", "", ["a"], {"a": 1}, ("a", "f"), ("a", 1), (None,), (("a",),), (["a"],)]:
            with self.subTest(repr(value)), self.assertRaises(InvalidWord):
                ordered(value)
        for value in odd_values():
            if not isinstance(value, tuple) or not all(map(is_word, value)):
                with self.subTest(repr(value)[:30]), self.assertRaises(InvalidWord):
                    ordered(value)


class WordsUptoTest(unittest.TestCase):
    def test_all_words_ascending(self):
        for signs in [("a",), ("e",), ("a", "b"), ("b", "d", "e"), ("a", "b", "c", "d", "e")]:
            for many in range(5):
                expected = [
                    "".join(row) for length in range(many + 1) for row in itertools.product(signs, repeat=length)
                ]
                self.assertEqual(list(words_upto(signs, many)), expected)

    def test_least_and_greatest_lengths(self):
        self.assertEqual(list(words_upto(("a", "c"), 0)), [""])
        self.assertEqual(list(words_upto(("c",), 8)), ["c" * length for length in range(9)])
        found = list(words_upto(("a", "b", "c"), 8))
        self.assertEqual(len(found), (3 ** 9 - 1) // 2)
        self.assertEqual(tuple(found), ordered(tuple(found)))

    def test_words_are_made_one_by_one(self):
        found = words_upto(("a", "b", "c", "d", "e"), 8)
        self.assertEqual([next(found) for _ in range(8)], ["", "a", "b", "c", "d", "e", "aa", "ab"])
        other = words_upto(("b", "c"), 1)
        self.assertEqual([next(other), next(found), next(other), next(found)], ["", "ac", "b", "ad"])
        self.assertEqual([next(other), next(other, None)], ["c", None])

    def test_words_are_not_kept(self):
        tracemalloc.start()
        try:
            many = sum(1 for _ in words_upto(("a", "b", "c"), 8))
            self.assertEqual(many, 9841)
            self.assertLess(tracemalloc.get_traced_memory()[1], 50000)
        finally:
            tracemalloc.stop()

    def test_an_iterator_is_returned(self):
        found = words_upto(("a",), 1)
        self.assertIs(iter(found), found)

    def test_wrong_signs(self):
        for signs in WRONG_SIGNS:
            with self.subTest(repr(signs)[:30]), self.assertRaises(InvalidWord):
                next(words_upto(signs, 2))

    def test_wrong_counts(self):
        for many in WRONG_COUNTS:
            with self.subTest(repr(many)[:30]), self.assertRaises(InvalidNumber) as caught:
                next(words_upto(("a",), many))
            self.assertIs(caught.exception.given, many)

    def test_signs_are_checked_first(self):
        with self.assertRaises(InvalidWord):
            next(words_upto(("b", "a"), 9))

    def test_errors_wait_for_the_first_word(self):
        found = words_upto(("f",), True)
        with self.assertRaises(InvalidWord):
            next(found)

    def test_odd_values(self):
        for value in odd_values():
            if value != ("a",):
                with self.subTest(repr(value)[:30]), self.assertRaises(InvalidWord):
                    next(words_upto(value, value))
            if type(value) is not int or not 0 <= value <= 8:
                with self.subTest(repr(value)[:30]), self.assertRaises(InvalidNumber):
                    next(words_upto(("a",), value))
