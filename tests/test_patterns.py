import inspect
import itertools
import random
import unittest

from mendnumber.errors import ParseError, TooMany
from mendnumber.forms import patterns as module
from mendnumber.forms.form import Form
from mendnumber.forms.patterns import is_pattern, read_pattern, signs_of, turned_pattern
from test_forms import is_form, judged_least
from values import ANY, PAIRS, THREES, odd_values, words_of

DEEP = 4400


def end_of_pattern(text, at=0):
    """Where a pattern that begins at an index ends, as far as can be, or None; by one function for each thing."""
    at = end_of_alternative(text, at)
    while at is not None and text[at:at + 1] == "|":
        at = end_of_alternative(text, at + 1)
    return at


def end_of_alternative(text, at):
    at = end_of_item(text, at)
    while at is not None and text[at:at + 1] in tuple("abcde("):
        at = end_of_item(text, at)
    return at


def end_of_item(text, at):
    if text[at:at + 1] in tuple("abcde"):
        at += 1
    elif text[at:at + 2] == "()":
        at += 2
    elif text[at:at + 1] == "(":
        at = end_of_pattern(text, at + 1)
        if at is None or text[at:at + 1] != ")":
            return None
        at += 1
    else:
        return None
    return at + 1 if text[at:at + 1] in tuple("*+?") else at


def judged(text):
    return end_of_pattern(text) == len(text)


def can_begin(text):
    """Whether a text is the beginning of some pattern."""
    close = ")" * (text.count("(") - text.count(")"))
    return judged(text + close) or judged(text + "a" + close)


def first_wrong(text):
    """The index for ParseError, or None."""
    if judged(text):
        return None
    for at in range(len(text)):
        if not can_begin(text[:at + 1]):
            return at
    return len(text)


def both(words, others, longest):
    return {word + other for word in words for other in others if len(word + other) <= longest}


def words_of_pattern(text, longest, at=0):
    """The words of at most so many signs of the pattern that begins at an index, and where it ends."""
    found = set()
    while True:
        words, at = words_of_alternative(text, longest, at)
        found |= words
        if text[at:at + 1] != "|":
            return found, at
        at += 1


def words_of_alternative(text, longest, at):
    found = {""}
    while text[at:at + 1] not in ("", "|", ")"):
        if text[at] in "abcde":
            words, at = {text[at]}, at + 1
        elif text[at + 1] == ")":
            words, at = {""}, at + 2
        else:
            words, at = words_of_pattern(text, longest, at + 1)
            at += 1
        mark = text[at:at + 1] if text[at:at + 1] in tuple("*+?") else ""
        at += len(mark)
        if mark == "?":
            words = words | {""}
        elif mark:
            more = words
            for _ in range(longest):
                more = more | both(more, words, longest)
            words = more | {""} if mark == "*" else more
        found = both(found, words, longest)
    return found, at


def some_patterns():
    """Patterns, the same ones in each run."""
    chance = random.Random(9)

    def item(depth):
        kind = chance.random()
        if depth == 0 or kind < 0.5:
            made = chance.choice("aabbc") if kind < 0.45 else "()"
        else:
            made = "(" + pattern(depth - 1) + ")"
        return made + chance.choice(("", "", "*", "+", "?"))

    def pattern(depth):
        return "|".join(
            "".join(item(depth) for _ in range(chance.randint(1, 3))) for _ in range(chance.choice((1, 1, 2))))

    made = [pattern(chance.randint(0, 3)) for _ in range(400)]
    return [text for text in made if sum(text.count(sign) for sign in "abcde") <= 9]


class JudgingTest(unittest.TestCase):
    def test_constants(self):
        self.assertEqual((module.MAX_TEXT, module.MAX_SIGNS), (200, 12))

    def test_patterns(self):
        for text in ("a", "()", "ab", "a|b", "(a)", "((a))", "a*", "()*", "(a|b)+c?", "(())", "()()", "a|()|b", "(()|a)?"):
            self.assertIs(is_pattern(text), True)

    def test_all_short_texts(self):
        for length in range(7):
            for letters in itertools.product("ae|()*"[:6 if length < 6 else 5], repeat=length):
                self.check("".join(letters))
        for letters in itertools.product("b|()+?f ", repeat=4):
            self.check("".join(letters))

    def check(self, text):
        wrong = first_wrong(text)
        self.assertIs(is_pattern(text), wrong is None)
        if wrong is not None:
            for use in (read_pattern, turned_pattern, signs_of):
                with self.assertRaises(ParseError) as caught:
                    use(text)
                self.assertEqual(caught.exception.at, wrong, text)

    def test_wrong_characters(self):
        for text, at in (("", 0), ("f", 0), ("aA", 1), ("a b", 1), ("a\n", 1), ("*a", 0), ("a**", 2), ("a*?", 2),
                         ("a|", 2), ("|a", 0), ("a||b", 2), ("(|a)", 1), ("(a|)", 3), ("(", 1), ("(a", 2), ("a)", 1),
                         ("())", 2), ("(*)", 1), ("a|*", 2), ("(a))(", 3), ("ab()(", 5), ("a+b+*", 4), (")", 0)):
            self.check(text)
            self.assertEqual(first_wrong(text), at)

    def test_every_value_is_judged(self):
        for value in odd_values():
            right = type(value) is str and first_wrong(value[:20]) is None and set(value) <= set("abcde")
            self.assertIs(is_pattern(value), right)
            if type(value) is not str:
                for use in (read_pattern, turned_pattern, signs_of):
                    with self.assertRaises(ParseError) as caught:
                        use(value)
                    self.assertEqual(caught.exception.at, 0)

    def test_long_and_deep_texts(self):
        for text, at in (
            ("a" * 9000, None), ("(" * DEEP + ")" * DEEP, None), ("(" * DEEP + "a" + ")*" * DEEP, None),
            ("(" * 9000, 9000), ("(" * DEEP + "a" + ")" * (DEEP - 1), 2 * DEEP), ("(a|" * 2990, 8970),
            ("(" * DEEP + "a" + ")" * (DEEP + 1), 2 * DEEP + 1), ("a|" * 4499 + "|", 8998), ("a" * 8999 + "f", 8999),
        ):
            self.assertIs(is_pattern(text), at is None)
            if at is None:
                self.assertEqual(len(turned_pattern(text)), len(text))
                self.assertEqual(signs_of(text), ("a",) if "a" in text else ())
                with self.assertRaises(TooMany) as caught:
                    read_pattern(text)
                self.assertEqual(caught.exception.limit, 200)
            else:
                for use in (read_pattern, turned_pattern, signs_of):
                    with self.assertRaises(ParseError) as caught:
                        use(text)
                    self.assertEqual(caught.exception.at, at)


class ReadingTest(unittest.TestCase):
    def check(self, text):
        made = read_pattern(text)
        wanted = sorted(words_of_pattern(text, 5)[0], key=lambda word: (len(word), word))
        self.assertEqual(words_of(made.states, 5), wanted, text)
        self.assertTrue(judged_least(made))
        self.assertTrue(is_form(made.states, 40))

    def test_against_sets_of_words(self):
        for text in some_patterns():
            self.assertIs(is_pattern(text), True)
            try:
                self.check(text)
            except TooMany as error:
                self.assertEqual(error.limit, 40)

    def test_short_patterns(self):
        for length in range(1, 6):
            for letters in itertools.product("ab|()*", repeat=length):
                text = "".join(letters)
                if judged(text):
                    self.check(text)

    def test_known_forms(self):
        self.assertEqual(read_pattern("()").states, (({}, True),))
        self.assertEqual(read_pattern("()*").states, (({}, True),))
        self.assertEqual(read_pattern("a*"), ANY)
        self.assertEqual(read_pattern("((a*)*)*"), ANY)
        self.assertEqual(read_pattern("a+").states, (({"a": 1}, False), ({"a": 1}, True)))
        self.assertEqual(read_pattern("a?").states, (({"a": 1}, True), ({}, True)))
        self.assertEqual(list(read_pattern("ab|c").words(3)), ["c", "ab"])
        self.assertEqual(list(read_pattern("a(b|c)d").words(3)), ["abd", "acd"])
        self.assertEqual(read_pattern("(ab)*"), PAIRS)
        self.assertEqual(read_pattern("(aaa)*"), THREES)
        self.assertEqual(read_pattern("(a|b|c|d|e)*"), Form.all_of(tuple("abcde")))

    def test_two_hundred_characters_and_more(self):
        text = "(" * 99 + "a" + ")" * 99 + "*"
        self.assertEqual((len(text), read_pattern(text)), (200, ANY))
        self.assertEqual(read_pattern("()" * 99 + "ab"), Form.of_words(("ab",)))
        for text in ("(" * 100 + "a" + ")" * 100, "()" * 100 + "a", "a" * 201):
            with self.assertRaises(TooMany) as caught:
                read_pattern(text)
            self.assertEqual(caught.exception.limit, 200)

    def test_twelve_signs_and_more(self):
        self.assertEqual(list(read_pattern("abcdeabcdeab").words(20)), ["abcdeabcdeab"])
        self.assertEqual(list(read_pattern("a|b|a|b|a|b|a|b|a|b|a|c").words(20)), ["a", "b", "c"])
        for text in ("abcdeabcdeabc", "a|" * 12 + "a", "(a)*" * 13, "a*" * 50):
            with self.assertRaises(TooMany) as caught:
                read_pattern(text)
            self.assertEqual(caught.exception.limit, 12)

    def test_forty_states_and_more(self):
        self.assertEqual(len(read_pattern("(a|b)*a" + "(a|b)" * 4)), 32)
        self.assertEqual(len(read_pattern("(aaaaa)*|(aaaaaaa)*")), 35)
        with self.assertRaises(TooMany) as caught:
            read_pattern("(aaa)*|(aaaa)*|(aaaaa)*")
        self.assertEqual(caught.exception.limit, 40)

    def test_order_of_errors(self):
        for text, at in (("a" * 200 + "f", 200), ("(" + "a" * 300, 301), ("a" * 13 + "|", 14)):
            with self.assertRaises(ParseError) as caught:
                read_pattern(text)
            self.assertEqual(caught.exception.at, at)
        with self.assertRaises(TooMany) as caught:
            read_pattern("a" * 201)
        self.assertEqual(caught.exception.limit, 200)


class TurningTest(unittest.TestCase):
    def test_known_patterns(self):
        for text, turned in (
            ("a", "a"), ("()", "()"), ("ab", "ba"), ("ab|cd", "ba|dc"), ("a*b", "ba*"), ("(ab)+c?", "c?(ba)+"),
            ("a(b|cd)*e", "e(b|dc)*a"), ("a()b", "b()a"), ("((ab)c)*d|e", "d(c(ba))*|e"), ("(a|b)(c|d)", "(c|d)(a|b)"),
        ):
            self.assertEqual(turned_pattern(text), turned)
            self.assertEqual(turned_pattern(turned), text)

    def test_words_are_read_backward(self):
        for text in some_patterns():
            turned = turned_pattern(text)
            self.assertEqual(turned_pattern(turned), text)
            self.assertEqual((sorted(turned), signs_of(turned)), (sorted(text), signs_of(text)))
            try:
                one, other = read_pattern(text), read_pattern(turned)
            except TooMany:
                continue
            self.assertEqual(sorted(word[::-1] for word in words_of(one.states, 5)), sorted(words_of(other.states, 5)))

    def test_deep_patterns(self):
        text = "(a" * 2000 + ")" * 2000
        turned = turned_pattern(text)
        self.assertEqual(turned, "(" * 2000 + "a)" * 2000)
        self.assertEqual(turned_pattern(turned), text)
        self.assertEqual(turned_pattern("ab" * 4500), "ba" * 4500)

    def test_signs(self):
        self.assertEqual(signs_of("()"), ())
        self.assertEqual(signs_of("e(a|d)*a"), ("a", "d", "e"))
        for text in some_patterns():
            self.assertEqual(signs_of(text), tuple(sorted(set(text) & set("abcde"))))

    def test_interface(self):
        wanted = {read_pattern: "(text)", is_pattern: "(value)", turned_pattern: "(text)", signs_of: "(text)"}
        for function, told in wanted.items():
            self.assertEqual(str(inspect.signature(function)), told)
            self.assertEqual(function.__module__, module.__name__)
