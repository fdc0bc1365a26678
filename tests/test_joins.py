import inspect
import itertools
import unittest

from mendnumber.errors import InvalidForm, InvalidOperation, InvalidWord, TooMany
from mendnumber.forms import joins
from mendnumber.forms.form import Form
from mendnumber.forms.joins import first_apart, is_within
from test_forms import FORTY, is_form, judged_least
from values import AHEAD, ANY, EIGHTS, FIVES, PAIRS, THREES, WRONG_SIGNS, odd_values, some_forms, words_of

NINE = Form.of_words(("abcdeabc",))
LONGEST = 6


def ring(many, sign="a"):
    """The words with so many times so many signs."""
    return Form(tuple(({sign: (at + 1) % many}, at == 0) for at in range(many)))


def some_pairs():
    forms = some_forms()
    return list(zip(forms, forms[3:] + forms[:3])) + [(one, one) for one in forms[:9]] + list(
        itertools.product(forms[:6], repeat=2))


def in_order(words):
    return sorted(set(words), key=lambda word: (len(word), word))


class JoinsTest(unittest.TestCase):
    def check(self, make, words):
        """What is made has just these words of at most LONGEST signs, and is least."""
        try:
            made = make()
        except InvalidOperation:
            self.assertEqual(words, [])
            return
        except TooMany as error:
            self.assertEqual(error.limit, 40)
            return
        self.assertIs(type(made), Form)
        self.assertEqual(words_of(made.states, LONGEST), words)
        self.assertTrue(judged_least(made))
        self.assertTrue(is_form(made.states, 40))

    def test_both_and_all_and_not(self):
        for one, other in some_pairs():
            words, others = words_of(one.states, LONGEST), words_of(other.states, LONGEST)
            self.check(lambda: one | other, in_order(words + others))
            self.check(lambda: one & other, in_order(set(words) & set(others)))
            self.check(lambda: one - other, in_order(set(words) - set(others)))

    def test_one_behind_the_other(self):
        for one, other in some_pairs():
            if max(len(one), len(other)) <= 5:
                words, others = words_of(one.states, LONGEST), words_of(other.states, LONGEST)
                made = in_order(word + more for word in words for more in others if len(word + more) <= LONGEST)
                self.check(lambda: one + other, made)

    def test_repeated(self):
        for one in some_forms():
            words = words_of(one.states, LONGEST)
            made, more = [""], [""]
            while more:
                more = in_order(word + other for word in more for other in words
                                if other and len(word + other) <= LONGEST)
                more = [word for word in more if word not in made]
                made = in_order(made + more)
            self.check(one.repeated, made)

    def test_backward(self):
        for one in some_forms():
            self.check(one.backward, in_order(word[::-1] for word in words_of(one.states, LONGEST)))

    def test_limited(self):
        for one in some_forms():
            words = words_of(one.states, LONGEST)
            for signs in (("a",), ("b", "c"), ("a", "b", "d", "e"), tuple("abcde")):
                self.check(lambda: one.limited(signs), [word for word in words if set(word) <= set(signs)])
        for signs in WRONG_SIGNS:
            with self.assertRaises(InvalidWord):
                PAIRS.limited(signs)
        with self.assertRaises(InvalidOperation):
            Form.of_words(("ab",)).limited(("a",))

    def test_renamed(self):
        for one in some_forms():
            words = words_of(one.states, LONGEST)
            for others in list(itertools.permutations("eadcb", len(one.signs)))[::7]:
                names = dict(zip(one.signs, others))
                made = in_order("".join(names[sign] for sign in word) for word in words)
                self.check(lambda: one.renamed(dict(reversed(names.items()))), made)
        self.assertEqual(Form((({}, True),)).renamed({}), Form((({}, True),)))
        for names in odd_values() + [
            {"a": "a"}, {"a": "b", "b": "b"}, {"a": "b", "b": "a", "c": "c"}, {"a": "a", "c": "b"}, {"a": "f", "b": "a"},
            {"a": "", "b": "a"}, {"a": "ab", "b": "c"}, {"a": None, "b": "a"}, {"a": ["b"], "b": "a"}, {"a": 1, "b": 2},
            [("a", "b"), ("b", "a")], ("ab", "ba"), {"a": "b", "b": True}, {"a": {}, "b": PAIRS},
        ]:
            with self.assertRaises(InvalidOperation):
                PAIRS.renamed(names)

    def test_results_are_least_and_numbered_anew(self):
        turned = Form((({"b": 2, "a": 1}, False), ({"b": 0}, True), ({"a": 0}, True)))
        for made in (turned | turned, turned & turned, turned.limited(("a", "b")), turned.backward().backward(),
                     turned.renamed({"a": "b", "b": "a"}).renamed({"a": "b", "b": "a"})):
            self.assertEqual(made, turned.least())
        swapped = Form((({"a": 2}, True), ({"a": 0}, False), ({"a": 1}, False)))
        self.assertEqual((swapped | swapped, swapped.limited(("a",)), swapped.renamed({"a": "a"})), (THREES,) * 3)

    def test_results_without_words(self):
        some = Form.of_words(("ab", "b"))
        for make in (lambda: some & PAIRS.limited(("a", "b")) & some - Form.of_words(("ab",)), lambda: some - some,
                     lambda: PAIRS - PAIRS, lambda: Form.of_words(("a",)) & Form.of_words(("b",)),
                     lambda: ANY - (ANY | PAIRS)):
            with self.assertRaises(InvalidOperation):
                make()

    def test_forty_states_and_more(self):
        self.assertEqual(len(FORTY), 40)
        self.assertEqual(FORTY & FORTY, FORTY)
        self.assertEqual(len(ring(8) & ring(5)), 40)
        self.assertEqual(list((ring(8) & ring(5)).words(200)), ["a" * many for many in range(0, 201, 40)])
        for make in (lambda: ring(7) & ring(6), lambda: ring(7) | ring(8), lambda: FORTY | ring(7), lambda: FORTY & ring(7),
                     lambda: FORTY - ring(7), lambda: FORTY - ring(1),
                     lambda: (ring(8) & ring(5)) - Form.of_words(("",))):
            with self.assertRaises(TooMany) as caught:
                make()
            self.assertEqual(caught.exception.limit, 40)
        sixth = Form((*(({"a": at + 1, "b": at + 1}, False) for at in range(6)), ({"a": 7}, False),
                      ({"a": 7, "b": 7}, True)))
        jumps = Form(tuple(({"a": a, "b": b}, at == 7) for at, (a, b) in enumerate(
            ((0, 1), (6, 0), (4, 6), (1, 5), (0, 7), (2, 3), (5, 4), (6, 6)))))
        for make in (sixth.backward, jumps.repeated, lambda: Form.all_of(("a", "b")) + sixth.with_move(6, "b", None).with_move(
                7, "a", None).with_move(7, "b", None).with_move(0, "b", None)):
            with self.assertRaises(TooMany) as caught:
                make()
            self.assertEqual(caught.exception.limit, 40)

    def test_eight_states_and_nine(self):
        self.assertEqual(len(NINE), 9)
        self.assertEqual(len(EIGHTS + EIGHTS), 8)
        self.assertEqual(EIGHTS.repeated(), EIGHTS)
        self.assertEqual(EIGHTS.backward(), EIGHTS)
        self.assertEqual(len(NINE | PAIRS) > 8, True)
        for make in (lambda: NINE + ANY, lambda: ANY + NINE, NINE.repeated, NINE.backward, lambda: NINE + NINE,
                     lambda: FORTY + ANY, FORTY.repeated, FORTY.backward):
            with self.assertRaises(TooMany) as caught:
                make()
            self.assertEqual(caught.exception.limit, 8)
        doubled = Form(tuple(({"a": (at + 1) % 8}, True) for at in range(8)))
        self.assertEqual((doubled + doubled, doubled.repeated(), doubled.backward()), (ANY, ANY, ANY))

    def test_long_results_are_quick(self):
        one, other = ring(8) & ring(5), (ring(3) & ring(7)).with_move(0, "b", 0)
        for make in (lambda: one & other, lambda: one | other, lambda: one - other):
            with self.assertRaises(TooMany):
                make()
        self.assertEqual(first_apart(one, other), "a" * 40)
        self.assertEqual(first_apart(one, ring(8)), None)

    def test_other_operands(self):
        for value in odd_values():
            if not isinstance(value, Form):
                for made in (PAIRS, NINE):
                    for make in (lambda: made | value, lambda: made & value, lambda: made - value, lambda: made + value,
                                 lambda: value | made, lambda: value & made, lambda: value - made, lambda: value + made):
                        with self.assertRaises(InvalidOperation):
                            make()

    def test_laws(self):
        for one, other in some_pairs():
            if max(len(one), len(other)) <= 4:
                self.assertEqual(one | other, other | one)
                self.assertIs(is_within(one, one | other), True)
                self.assertIs((one | other).is_alike(one), is_within(other, one))
                parts = (one + other, one.backward(), other.backward())
                if max(map(len, parts)) <= 8:
                    self.assertEqual(parts[0].backward(), parts[2] + parts[1])


class ApartTest(unittest.TestCase):
    def test_against_all_words(self):
        for one, other in some_pairs():
            words, others = words_of(one.states, 8), set(words_of(other.states, 8))
            apart = [word for word in words if word not in others]
            told = first_apart(one, other)
            self.assertEqual(told if told is None or len(told) <= 8 else None, apart[0] if apart else None)
            self.assertIs(is_within(one, other), told is None)
            if told is not None:
                self.assertTrue(told in one and told not in other)

    def test_known_pairs(self):
        self.assertEqual(first_apart(AHEAD, PAIRS), "a")
        self.assertEqual(first_apart(PAIRS, AHEAD), "abab")
        self.assertEqual(first_apart(ANY, ANY), None)
        self.assertEqual(first_apart(ANY, Form.of_words(("a",))), "")
        self.assertEqual(first_apart(FORTY, ANY), "a" * 39 + "b")
        self.assertIs(is_within(PAIRS, Form.all_of(("a", "b"))), True)
        self.assertIs(is_within(FORTY, FIVES), True)
        self.assertIs(is_within(FIVES, FORTY), False)

    def test_errors(self):
        for value in odd_values():
            if not isinstance(value, Form):
                for use in (is_within, first_apart):
                    with self.assertRaises(InvalidForm):
                        use(value, ANY)
                    with self.assertRaises(InvalidForm):
                        use(ANY, value)

    def test_interface(self):
        for function in (is_within, first_apart):
            self.assertEqual(str(inspect.signature(function)), "(one, other)")
            self.assertEqual(function.__module__, joins.__name__)
