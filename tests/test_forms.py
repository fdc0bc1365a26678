import copy
import inspect
import itertools
import unittest

from mendnumber.errors import InvalidForm, InvalidNumber, InvalidOperation, InvalidWord, TooMany
from mendnumber.forms import form as module
from mendnumber.forms.form import Form, is_least
from values import (
    AHEAD, ANY, EIGHTS, FIVES, HUNDRED_DIGITS, PAIRS, SIXTY_DIGITS, SIXTY_ONE_DIGITS, THREES, WRONG_SIGNS, near,
    odd_values, odd_values_but, some_forms, words_of,
)

FORTY = EIGHTS & FIVES
WRONG_NUMBERS = [None, True, False, "0", (0,), [0], {}, -1, SIXTY_DIGITS, SIXTY_ONE_DIGITS, -HUNDRED_DIGITS, PAIRS]


def is_form(states, most=8):
    """Whether a value is the states of a form, by a look at all words of few signs."""
    if type(states) is not tuple or not 1 <= len(states) <= most:
        return False
    for state in states:
        if type(state) is not tuple or len(state) != 2 or type(state[0]) is not dict or type(state[1]) is not bool:
            return False
        for sign, to in state[0].items():
            if type(sign) is not str or sign not in list("abcde") or type(to) is not int or not 0 <= to < len(states):
                return False
    reached, ending = {0}, {at for at, state in enumerate(states) if state[1]}
    for _ in states:
        reached |= {to for at in reached for to in states[at][0].values()}
        ending |= {at for at, state in enumerate(states) if ending & set(state[0].values())}
    return len(reached) == len(ending) == len(states)


def first_words_of(form):
    """The first word to each state, by all words in order."""
    found, level = {0: ""}, [(0, "")]
    while level:
        behind = []
        for state, word in level:
            for sign, to in sorted(form.states[state][0].items()):
                if to not in found:
                    found[to] = word + sign
                    behind.append((to, word + sign))
        level = behind
    return found


def are_apart(form, one, other):
    """Whether from two states on not the same words lead to last states, by all pairs that can be reached."""
    seen, queue = {(one, other)}, [(one, other)]
    while queue:
        (moves, last), (other_moves, other_last) = [form.states[state] for state in queue.pop()]
        if last != other_last or set(moves) != set(other_moves):
            return True
        for pair in [(moves[sign], other_moves[sign]) for sign in moves]:
            if pair not in seen:
                seen.add(pair)
                queue.append(pair)
    return False


def judged_least(form):
    """Whether a form is least, by the two things that are said of least forms."""
    words = list(first_words_of(form).items())
    if [state for state, _ in words] != list(range(len(form))):
        return False
    return all(are_apart(form, one, other) for one, other in itertools.combinations(range(len(form)), 2))


class MakingTest(unittest.TestCase):
    def test_constants(self):
        self.assertEqual((module.MAX_WRITTEN, module.MAX_STATES), (8, 40))

    def test_states_are_told(self):
        states = (({"b": 1, "a": 0}, False), ({}, True))
        made = Form(states)
        self.assertEqual(made.states, states)
        self.assertEqual(list(made.states[0][0]), ["a", "b"])
        self.assertEqual((made.signs, made.first, len(made), str(made)), (("a", "b"), "b", 2, "form of 2 states, 2 signs"))

    def test_one_state_and_no_moves(self):
        made = Form((({}, True),))
        self.assertEqual((made.states, made.signs, made.first, len(made)), ((({}, True),), (), "", 1))
        self.assertEqual((list(made.words(200)), made.count(0), made.count(1), made.is_finite()), ([""], 1, 0, True))
        self.assertEqual(str(made), "form of 1 states, 0 signs")

    def test_eight_states_and_more(self):
        self.assertEqual(len(EIGHTS), 8)
        nine = tuple(({"a": (at + 1) % 9}, True) for at in range(9))
        with self.assertRaises(InvalidForm):
            Form(nine)
        with self.assertRaises(InvalidForm):
            Form(FORTY.states)
        with self.assertRaises(InvalidForm):
            Form(())

    def test_states_without_use(self):
        for states in (
            (({}, False),), (({"a": 0}, False),), (({"a": 0}, True), ({}, True)), (({"a": 1}, True), ({}, False)),
            (({"a": 1}, True), ({"a": 1}, False)), (({"a": 0}, True), ({"b": 0}, True)),
            (({"a": 1}, True), ({"a": 2}, False), ({"a": 1}, False)), (({}, True), ({"a": 2}, True), ({"a": 1}, True)),
        ):
            self.assertFalse(is_form(states))
            with self.assertRaises(InvalidForm):
                Form(states)

    def test_all_small_states(self):
        for many in (1, 2):
            kinds = [{sign: to for sign, to in zip("ab", way) if to is not None}
                     for way in itertools.product((None, *range(many)), repeat=2)]
            for states in itertools.product(itertools.product(kinds, (True, False)), repeat=many):
                try:
                    made = Form(states)
                except InvalidForm:
                    self.assertFalse(is_form(states))
                else:
                    self.assertTrue(is_form(states))
                    self.assertEqual(made.states, states)

    def test_states_near_right_ones(self):
        for made in (ANY, PAIRS, THREES, AHEAD):
            for states in near(made.states) + odd_values():
                if is_form(states):
                    self.assertEqual(Form(states).states, states)
                else:
                    with self.assertRaises(InvalidForm):
                        Form(states)

    def test_wrong_states(self):
        for states in odd_values() + [[({"a": 0}, True)], ([{"a": 0}, True],), (({"a": 0}, 1),), (({"a": 0}, None),)]:
            if not is_form(states):
                with self.assertRaises(InvalidForm):
                    Form(states)
        for moves in ({"f": 0}, {"": 0}, {"ab": 0}, {0: 0}, {None: 0}, {True: 0}, {("a",): 0}, {"a": False},
                      {"a": 2}, {"a": -1}, {"a": None}, {"a": "0"}, {"a": SIXTY_ONE_DIGITS}, {"a": [0]}, [], None,
                      [("a", 0)], (("a", 0),), "a", PAIRS):
            with self.subTest(repr(moves)[:40]), self.assertRaises(InvalidForm):
                Form(((moves, True),))
            with self.assertRaises(InvalidForm):
                Form((({"a": 1}, True), (moves, True)))
        with self.assertRaises(InvalidForm):
            Form((({"a": True}, False), ({}, True)))


class FactoriesTest(unittest.TestCase):
    def test_of_words(self):
        for words in itertools.product(("", "a", "b", "ab", "ba", "bab", "eee", "aab"), repeat=3):
            made = Form.of_words(words)
            self.assertEqual(list(made.words(9)), sorted(set(words), key=lambda word: (len(word), word)))
            self.assertTrue(judged_least(made))
            self.assertTrue(is_form(made.states, 40))

    def test_one_word(self):
        self.assertEqual(Form.of_words(("",)).states, (({}, True),))
        self.assertEqual(Form.of_words(("a",)).states, (({"a": 1}, False), ({}, True)))
        self.assertEqual(Form.of_words(("b", "", "b")).states, (({"b": 1}, True), ({}, True)))

    def test_forty_states_and_more(self):
        made = Form.of_words(("a" * 39, "b" + "a" * 38))
        self.assertEqual((list(made.words(200)), len(made)), (["a" * 39, "b" + "a" * 38], 40))
        self.assertEqual(len(Form.of_words(("ab" * 19 + "c",))), 40)
        for words in (("a" * 40,), ("", "a" * 9000), ("a" * 25, "b" * 25)):
            with self.assertRaises(TooMany) as caught:
                Form.of_words(words)
            self.assertEqual(caught.exception.limit, 40)

    def test_wrong_words(self):
        for value in odd_values():
            right = type(value) is tuple and all(type(one) is str and set(one) <= set("abcde") for one in value)
            with self.assertRaises(InvalidOperation if right else InvalidWord):
                Form.of_words(() if right else value)
        with self.assertRaises(InvalidWord):
            Form.of_words(("a" * 40, "f"))
        with self.assertRaises(InvalidOperation):
            Form.of_words(())

    def test_all_of(self):
        self.assertEqual(Form.all_of(("a",)), ANY)
        self.assertEqual(Form.all_of(tuple("abcde")).states, ((dict.fromkeys("abcde", 0), True),))
        self.assertEqual(list(Form.all_of(("b", "d")).words(2)), ["", "b", "d", "bb", "bd", "db", "dd"])
        for signs in WRONG_SIGNS:
            with self.assertRaises(InvalidWord):
                Form.all_of(signs)


class WordsTest(unittest.TestCase):
    def test_against_all_words(self):
        for made in some_forms():
            words = words_of(made.states, 6)
            self.assertEqual(list(made.words(6)), words)
            for many in range(7):
                self.assertEqual(list(made.words(many)), [word for word in words if len(word) <= many])
                self.assertEqual(made.count(many), len([word for word in words if len(word) == many]))
            if words:
                self.assertEqual(made.first, words[0])
            for length in range(5):
                for letters in itertools.product("abc", repeat=length):
                    word = "".join(letters)
                    self.assertIs(word in made, word in words)
                    self.assertEqual(made.walk(word)[0], 0)
                    self.assertIs(len(made.walk(word)) == len(word) + 1 and made.states[made.walk(word)[-1]][1],
                                  word in words)

    def test_first_words(self):
        for made in some_forms():
            found = first_words_of(made)
            last = sorted((len(found[at]), found[at]) for at, state in enumerate(made.states) if state[1])
            self.assertEqual(made.first, last[0][1])

    def test_walk(self):
        self.assertEqual(PAIRS.walk(""), (0,))
        self.assertEqual(PAIRS.walk("abab"), (0, 1, 0, 1, 0))
        self.assertEqual(PAIRS.walk("b"), (0,))
        self.assertEqual(PAIRS.walk("aab"), (0, 1))
        self.assertEqual(PAIRS.walk("abe"), (0, 1, 0))
        self.assertEqual(THREES.walk("a" * 1000)[-1], 1)
        for value in odd_values_but("", "a"):
            with self.assertRaises(InvalidWord):
                PAIRS.walk(value)
        with self.assertRaises(InvalidWord):
            PAIRS.walk("a" * 1001)

    def test_contains_takes_all_values(self):
        for value in odd_values():
            self.assertIs(value in ANY, type(value) is str and set(value) <= {"a"})
        self.assertIs("ab" * 4500 in PAIRS, True)
        self.assertIs("a" + "ab" * 4499 in PAIRS, False)
        self.assertIs("a" * 300001 in THREES, False)
        self.assertIs("a" * 300000 in THREES, True)

    def test_far_words_are_told_one_by_one(self):
        self.assertEqual(list(itertools.islice(FORTY.words(200), 3)), ["", "a" * 40, "a" * 39 + "b"])
        self.assertEqual(list(FORTY.words(39)), [""])
        self.assertEqual(list(THREES.words(200)), ["a" * many for many in range(0, 201, 3)])
        self.assertEqual(list(PAIRS.words(200))[-1], "ab" * 100)
        every = Form.all_of(tuple("abcde"))
        wanted = sorted(("".join(word) for length in range(4) for word in itertools.product("abcde", repeat=length)),
                        key=lambda word: (len(word), word))
        self.assertEqual(list(itertools.islice(every.words(200), len(wanted))), wanted)
        tail = Form((({"a": 1, "b": 1}, False), ({"c": 1, "d": 2}, False), ({}, True)))
        words = list(tail.words(200))
        self.assertEqual((len(words), words[-2:]), (398, ["a" + "c" * 198 + "d", "b" + "c" * 198 + "d"]))

    def test_counts(self):
        self.assertEqual(Form.all_of(("a", "b")).count(200), 2 ** 200)
        self.assertEqual(FORTY.count(200), 5 ** 200)
        self.assertEqual(FORTY.count(199), 0)
        self.assertEqual([AHEAD.count(many) for many in (0, 1, 2, 200)], [1, 2, 3, 201])
        for value in odd_values() + [201, -1, 10 ** 9]:
            if type(value) is not int or not 0 <= value <= 200:
                with self.assertRaises(InvalidNumber) as caught:
                    AHEAD.count(value)
                self.assertIs(caught.exception.given, value)
                words = AHEAD.words(value)
                with self.assertRaises(InvalidNumber) as caught:
                    next(words)
                self.assertIs(caught.exception.given, value)

    def test_words_is_a_generator(self):
        self.assertTrue(inspect.isgenerator(AHEAD.words(3)))
        one, other = AHEAD.words(5), AHEAD.words(5)
        self.assertEqual([next(one), next(one), next(other), next(one), next(other)], ["", "a", "", "b", "a"])

    def test_finite(self):
        for made in some_forms():
            self.assertIs(made.is_finite(), not any(made.count(many) for many in range(len(made), 2 * len(made) + 1)))
        self.assertIs(FORTY.is_finite(), False)
        self.assertIs(Form.of_words(("a" * 39,)).is_finite(), True)


class LeastTest(unittest.TestCase):
    def test_least_forms(self):
        for made in some_forms() + [FORTY]:
            least = made.least()
            self.assertTrue(judged_least(least))
            self.assertEqual(words_of(least.states, 5 if made is not FORTY else 3),
                             words_of(made.states, 5 if made is not FORTY else 3))
            self.assertLessEqual(len(least), len(made))
            self.assertIs(made.is_alike(least), True)
            self.assertIs(is_least(least), True)
            self.assertIs(is_least(made), judged_least(made))
            self.assertEqual(least.least(), least)
            self.assertTrue(is_form(least.states, 40))

    def test_all_orders_of_the_states_have_one_least_form(self):
        made = Form((({"a": 1, "b": 2}, False), ({"a": 3}, False), ({"b": 3}, True), ({"a": 0}, True)))
        for order in itertools.permutations((1, 2, 3)):
            number = dict(zip((0, *order), range(4)))
            states = [None] * 4
            for at, (moves, last) in enumerate(made.states):
                states[number[at]] = ({sign: number[to] for sign, to in moves.items()}, last)
            other = Form(tuple(states))
            self.assertEqual(other.least(), made)
            self.assertIs(other.is_alike(made), True)
            self.assertIs(is_least(other), order == (1, 2, 3))
            self.assertIs(other == made, order == (1, 2, 3))

    def test_alike(self):
        doubled = Form((({"a": 1}, True), ({"a": 2}, True), ({"a": 0}, True)))
        self.assertIs(doubled.is_alike(ANY), True)
        self.assertIs(ANY.is_alike(doubled), True)
        self.assertIs(doubled == ANY, False)
        self.assertIs(THREES.is_alike(ANY), False)
        forms = some_forms()
        for one, other in zip(forms, forms[1:]):
            self.assertIs(one.is_alike(other), words_of(one.states, 9) == words_of(other.states, 9))
        for value in odd_values():
            if not isinstance(value, Form):
                with self.assertRaises(InvalidForm):
                    ANY.is_alike(value)

    def test_is_least_takes_all_values(self):
        for value in odd_values():
            self.assertIs(is_least(value), isinstance(value, Form))


class OtherStatesTest(unittest.TestCase):
    def test_all_moves(self):
        for made in (ANY, PAIRS, THREES, AHEAD):
            for state in range(len(made)):
                for sign in "abc":
                    for to in (None, *range(len(made))):
                        states = copy.deepcopy(made.states)
                        states[state][0].pop(sign, None)
                        if to is not None:
                            states[state][0][sign] = to
                        self.check(states, lambda: made.with_move(state, sign, to))

    def check(self, states, make):
        if is_form(states):
            made = make()
            self.assertEqual(made.states, states)
            for moves, _ in made.states:
                self.assertEqual(list(moves), sorted(moves))
        else:
            with self.assertRaises(InvalidForm):
                make()

    def test_all_last(self):
        for made in (ANY, PAIRS, THREES, AHEAD):
            for state in range(len(made)):
                for last in (True, False):
                    states = list(made.states)
                    states[state] = (states[state][0], last)
                    self.check(tuple(states), lambda: made.with_last(state, last))

    def test_forms_of_many_states(self):
        other = FORTY.with_last(39, True).with_move(3, "a", 7).with_move(4, "b", None)
        self.assertEqual((len(other), other.states[39][1], other.states[3][0]["a"]), (40, True, 7))
        self.assertNotIn("b", other.states[4][0])
        with self.assertRaises(InvalidForm):
            FORTY.with_last(0, False)
        with self.assertRaises(InvalidNumber):
            FORTY.with_last(40, False)

    def test_order_of_errors(self):
        for state in WRONG_NUMBERS + [2]:
            for call in (lambda: PAIRS.with_move(state, "f", 9), lambda: PAIRS.with_last(state, 7)):
                with self.assertRaises(InvalidNumber) as caught:
                    call()
                self.assertIs(caught.exception.given, state)
        for sign in odd_values_but("a"):
            with self.assertRaises(InvalidWord):
                PAIRS.with_move(0, sign, 9)
        for to in WRONG_NUMBERS[1:] + [2, 9]:
            with self.assertRaises(InvalidNumber) as caught:
                PAIRS.with_move(0, "a", to)
            self.assertIs(caught.exception.given, to)
        for last in odd_values_but(True, False):
            with self.assertRaises(InvalidForm):
                PAIRS.with_last(0, last)
        with self.assertRaises(InvalidForm):
            PAIRS.with_move(0, "a", None)
        self.assertEqual(PAIRS.with_move(0, "b", None), PAIRS)

    def test_elder_forms_stay(self):
        before = copy.deepcopy(AHEAD.states)
        AHEAD.with_move(0, "c", 1), AHEAD.with_last(0, False), AHEAD.least(), AHEAD.backward(), AHEAD | PAIRS
        AHEAD.repeated(), AHEAD + ANY, AHEAD - ANY, AHEAD & ANY, AHEAD.renamed({"a": "b", "b": "a"}), AHEAD.limited(("a",))
        self.assertEqual(AHEAD.states, before)


class ConventionsTest(unittest.TestCase):
    def test_what_was_passed_can_be_changed(self):
        moves = {"a": 0}
        made = Form(((moves, True), ))
        moves["b"] = 7
        moves["a"] = 3
        self.assertEqual(made, ANY)

    def test_what_was_returned_can_be_changed(self):
        for made in (Form(PAIRS.states), PAIRS.least(), PAIRS | ANY, Form.of_words(("ab", "")), PAIRS.with_last(1, True),
                     Form.all_of(("a",))):
            before = copy.deepcopy(made.states)
            for moves, _ in made.states:
                moves.clear()
            for moves, _ in made.least().states:
                moves["f"] = 77
            self.assertEqual(made.states, before)

    def test_equality(self):
        for value in odd_values():
            self.assertIs(value == PAIRS, isinstance(value, Form))
            self.assertIs(PAIRS != value, not isinstance(value, Form))
        self.assertEqual(Form((({"b": 0, "a": 0}, True),)), Form((({"a": 0, "b": 0}, True),)))
        self.assertNotEqual(PAIRS, PAIRS.with_last(1, True))

    def test_forms_are_not_iterated_over_and_do_not_change(self):
        with self.assertRaises(TypeError):
            iter(PAIRS)
        with self.assertRaises(TypeError):
            list(PAIRS)
        for name in ("states", "signs", "first"):
            with self.assertRaises(AttributeError):
                setattr(PAIRS, name, ())

    def test_interface(self):
        wanted = {
            "of_words": "(words)", "all_of": "(signs)", "walk": "(self, word)", "words": "(self, many)",
            "count": "(self, many)", "is_finite": "(self)", "is_alike": "(self, other)", "least": "(self)",
            "with_move": "(self, state, sign, to)", "with_last": "(self, state, last)", "repeated": "(self)",
            "backward": "(self)", "limited": "(self, signs)", "renamed": "(self, names)",
        }
        for name, told in wanted.items():
            self.assertIn(name, vars(Form))
            self.assertEqual(str(inspect.signature(getattr(Form, name))), told)
        for name in ("states", "signs", "first", "__contains__", "__len__", "__eq__", "__str__", "__or__", "__and__",
                     "__sub__", "__add__"):
            self.assertIn(name, vars(Form))
        self.assertEqual(str(inspect.signature(Form)), "(states)")
        self.assertEqual(str(inspect.signature(is_least)), "(value)")
        for one in (Form, is_least):
            self.assertEqual(one.__module__, module.__name__)
        self.assertIs(type(FORTY), Form)
