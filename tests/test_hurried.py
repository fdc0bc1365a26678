import copy
import inspect
import unittest

from mendnumber.decide.greatest import greatest_cost
from mendnumber.errors import InvalidForm, InvalidNumber, InvalidOperation, InvalidPrices, TooMany
from mendnumber.forms.form import Form
from mendnumber.forms.patterns import read_pattern
from mendnumber.game import hurried as module
from mendnumber.game.hurried import (
    hurried_number, hurried_paper, is_hurriable, is_hurried_paper, is_ring_paper, ring_paper,
)
from mendnumber.rings.chains import is_bounded
from mendnumber.rings.rings import Rings
from oracles import check_order, wrong_forms, wrong_numbers, wrong_prices
from pairs import (
    AHEAD, ANY, EMPTY, FIVE, FORK, LATE, LINE, ONE, PAIRS, ROUGH, ROWS, SIX, SLOW, THREES, some_pairs, some_triples,
)
from papers import Game, hurried_by_words, is_rings
from test_rows import SEVEN, SEVEN_C
from values import near, odd_values

FINITE = [
    LINE, EMPTY, Form.of_words(("a", "ba", "bab")), Form.of_words(("", "abc", "cb", "bb")), Form.of_words(("aaa", "ab", "bbb")),
    Form.of_words(("ca", "cb", "cca")), Form.of_words(("aba", "bab", "bb")),
]
UNHURRIED = [
    (FORK, LATE), (FORK, read_pattern("ea*c*|da*b*")), (FORK, read_pattern("d(aa)*b*|ea*c*")),
    (FORK.renamed({"a": "b", "b": "c", "c": "a"}), read_pattern("db*c*|eb*a*")),
]


class RingPaperTest(unittest.TestCase):
    def test_papers(self):
        counts = {True: 0, False: 0}
        for source, target in some_pairs() + UNHURRIED:
            told = is_hurriable(source, target)
            counts[told] += 1
            if told:
                paper = ring_paper(source, target)
                self.assertTrue(is_rings(source, target, paper))
                self.assertIs(is_ring_paper(source, target, paper), True)
                self.assertIs(is_bounded(source, target), True)
            else:
                with self.assertRaises(InvalidOperation):
                    ring_paper(source, target)
        self.assertGreater(min(counts.values()), 60)

    def test_against_all_papers(self):
        for source, target in [(ANY, THREES), (ANY, PAIRS), (AHEAD, AHEAD), *UNHURRIED, (EMPTY, ANY), (AHEAD, LATE), (FORK, FORK)]:
            pairs = [(ring, other) for ring in Rings(source) for other in Rings(target)]
            papers = [tuple(pair for at, pair in enumerate(sorted(pairs)) if chosen >> at & 1) for chosen in range(1 << len(pairs))]
            told = [is_rings(source, target, paper) for paper in papers]
            self.assertEqual([is_ring_paper(source, target, paper) for paper in papers], told)
            self.assertIs(is_hurriable(source, target), any(told))

    def test_known_papers(self):
        self.assertEqual(ring_paper(ANY, THREES), (((0,), (0, 1, 2)),))
        self.assertEqual(ring_paper(EMPTY, PAIRS), ())
        self.assertEqual(ring_paper(LINE, PAIRS), ())
        for source, target in UNHURRIED:
            self.assertIs(is_bounded(source, target), True)
            self.assertIs(is_hurriable(source, target), False)

    def test_values_near_a_paper(self):
        for source, target in ((ANY, THREES), (AHEAD, AHEAD), (ROWS, ROWS), (EMPTY, ANY), (FORK, FORK), (ANY, PAIRS)):
            paper = ring_paper(source, target) if is_hurriable(source, target) else (((0,), (0, 1)),)
            for value in near(paper) + odd_values():
                self.assertIs(is_ring_paper(source, target, value), is_rings(source, target, value), value)


class NumberTest(unittest.TestCase):
    def test_against_a_game_over_all_words(self):
        for source in FINITE:
            for target in (ANY, PAIRS, LINE, AHEAD, THREES, SIX, Form.of_words(("b",)), read_pattern("(ab|ba)c*|cc")):
                for prices in (FIVE, ROUGH):
                    for ahead in (0, 1, 2):
                        self.assertEqual(hurried_number(source, target, prices, ahead=ahead),
                                         hurried_by_words(source, target, prices, ahead))

    def test_between_greatest_cost_and_less_ahead(self):
        for source, target, prices in some_triples(2):
            numbers = [hurried_number(source, target, prices, ahead=ahead) for ahead in (0, 1, 2)]
            if is_hurriable(source, target):
                self.assertEqual(numbers, sorted(numbers, reverse=True))
                self.assertGreaterEqual(numbers[-1], greatest_cost(source, target, prices))
                self.assertEqual(hurried_number(source, target, prices), numbers[0])
            else:
                self.assertEqual(numbers, [None, None, None])

    def test_known_numbers(self):
        for source, target, prices, wanted in (
            (ANY, THREES, ONE, [2, 1, 1]), (FORK, LATE, FIVE, [None] * 3), (ANY, ANY, ONE, [0] * 3), (EMPTY, LINE, FIVE, [2] * 3),
            (Form.of_words(("ab", "ac")), Form.of_words(("db", "ec")), FIVE, [2, 1, 1]), (ANY, PAIRS, ONE, [None] * 3),
            (Form.of_words(("aab", "aac")), Form.of_words(("dab", "eac")), FIVE, [2, 2, 1]),
            (Form.of_words(("aaab", "aaac")), read_pattern("d(a|b)*|ea*c"), FIVE, [2, 2, 2]),
        ):
            self.assertEqual([hurried_number(source, target, prices, ahead=ahead) for ahead in (0, 1, 2)], wanted)


class PaperTest(unittest.TestCase):
    def test_papers(self):
        for at, (source, target, prices) in enumerate(some_triples(3) + [(*pair, FIVE) for pair in UNHURRIED]):
            ahead = at % 3 if len(source.signs) < 3 else at % 2
            paper = hurried_paper(source, target, prices, ahead=ahead)
            self.assertEqual(paper[0], "number" if is_hurriable(source, target) else "none")
            self.assertTrue(Game(source, target, prices, ahead).is_paper(paper))
            self.assertIs(is_hurried_paper(source, target, prices, paper, ahead=ahead), True)
            for table in ([paper[2], *paper[3]] if paper[0] == "number" else [paper[1]]):
                self.assertEqual(list(table), sorted(table))
            if paper[0] == "number":
                self.assertEqual(paper[1], hurried_number(source, target, prices, ahead=ahead))
                self.assertIs(is_hurried_paper(source, target, prices, ("number", paper[1] + 1, *paper[2:]), ahead=ahead), False)
            self.assertEqual(hurried_paper(source, target, prices, ahead=ahead), paper)

    def test_papers_of_all_unhurried_pairs(self):
        for source, target in UNHURRIED:
            for ahead in (0, 1, 2):
                paper = hurried_paper(source, target, FIVE, ahead=ahead)
                self.assertEqual(paper[0], "none")
                self.assertTrue(Game(source, target, FIVE, ahead).is_paper(paper))
                self.assertIs(is_hurried_paper(source, target, FIVE, paper, ahead=ahead), True)
                self.assertIs(is_hurried_paper(source, target, FIVE, paper, ahead=(ahead + 1) % 3), False)
        self.assertEqual(hurried_paper(ANY, PAIRS, ONE)[0], "none")

    def test_values_near_a_paper(self):
        for source, target, prices, ahead in (
            (ANY, THREES, ONE, 0), (LINE, PAIRS, ROUGH, 1), (ANY, PAIRS, ONE, 1), (ANY, ANY, ONE, 0), (FORK, LATE, FIVE, 0),
            (Form.of_words(("ab", "ac")), Form.of_words(("db", "ec")), FIVE, 1),
        ):
            game = Game(source, target, prices, ahead)
            paper = hurried_paper(source, target, prices, ahead=ahead)
            before = copy.deepcopy(paper)
            for value in near(paper) + odd_values():
                told = is_hurried_paper(source, target, prices, value, ahead=ahead)
                self.assertIs(told, game.is_paper(value), value)
            self.assertEqual(paper, before)

    def test_papers_that_the_program_did_not_make(self):
        most = {(0, "", 0): 0, (0, "a", 0): 2, (0, "a", 1): 2, (0, "a", 2): 1, (0, "", 1): 2, (0, "", 2): 1}
        rounds = ({(0, "", 1): 2, (0, "", 2): 1}, {(0, "a", 0): 1, (0, "a", 1): 1}, {(0, "a", 0): 2})
        game = Game(ANY, THREES, ONE, 0)
        for value in (
            ("number", 2, most, rounds), ("number", 2, {**most, (0, "a", 2): 0}, rounds), ("number", 2, most, rounds[1:]),
            ("number", 1, most, rounds), ("number", 2, most, rounds + ({},)), ("number", 2, most, ()), ("number", 2, most, ({},)),
            ("number", 2, {**most, (0, "a", 0): 3}, rounds), ("number", 3, {**most, (0, "a", 0): 3}, rounds),
            ("number", 2, {**most, (0, "aa", 0): 3}, rounds), ("number", 2, {**most, (0, "b", 0): 3}, rounds),
            ("number", 2, {**most, (0, "a", 3): 3}, rounds), ("number", 2, {**most, (1, "a", 0): 3}, rounds),
        ):
            self.assertIs(is_hurried_paper(ANY, THREES, ONE, value), game.is_paper(value), value)
        self.assertTrue(any(game.is_paper(("number", 2, {**most, (0, "a", 2): number}, hurried_paper(ANY, THREES, ONE)[3]))
                            for number in range(4)))
        # Ranks can be greater than needed, and there can be more positions than needed.
        kind, ranks = hurried_paper(FORK, LATE, FIVE, ahead=2)
        self.assertIs(is_hurried_paper(FORK, LATE, FIVE, (kind, {key: 5 * ranks[key] + 9 for key in ranks}), ahead=2), True)
        self.assertIs(is_hurried_paper(FORK, LATE, FIVE, (kind, {key: 0 for key in ranks}), ahead=2), False)
        self.assertIs(is_hurried_paper(FORK, LATE, FIVE, (kind, dict(reversed(ranks.items()))), ahead=2), True)
        self.assertIs(is_hurried_paper(FORK, LATE, FIVE, (kind, {}), ahead=2), False)

    def test_what_was_returned_can_be_changed(self):
        paper = hurried_paper(ANY, THREES, ONE)
        before = copy.deepcopy(paper)
        paper[2].clear()
        self.assertEqual(hurried_paper(ANY, THREES, ONE), before)


class ErrorsTest(unittest.TestCase):
    def test_order(self):
        pairs = ((SEVEN, wrong_forms(), InvalidForm), (SEVEN_C, wrong_forms(), InvalidForm))
        three = (*pairs, (SLOW, wrong_prices(), InvalidPrices))
        for use in (is_hurriable, ring_paper, lambda *given: is_ring_paper(*given, None)):
            check_order(self, use, *pairs)
            for source, target in ((ANY, SEVEN), (SEVEN, ANY)):
                with self.assertRaises(TooMany) as caught:
                    use(source, target)
                self.assertEqual(caught.exception.limit, 6)
        for use in (hurried_number, hurried_paper, lambda *given, **named: is_hurried_paper(*given, None, **named)):
            check_order(self, use, *three, ahead=(1, wrong_numbers(0, 2), InvalidNumber))
            for source, target in ((ANY, SEVEN_C), (SEVEN_C, ANY), (SEVEN, SEVEN_C), (FORK, ANY)):
                with self.assertRaises(InvalidOperation):
                    use(source, target, SLOW, ahead=2)
            for source, target in ((ANY, SEVEN), (SEVEN, ANY)):
                with self.assertRaises(TooMany) as caught:
                    use(source, target, ONE, ahead=0)
                self.assertEqual(caught.exception.limit, 6)

    def test_interface(self):
        wanted = {
            is_hurriable: "(source, target)", ring_paper: "(source, target)", is_ring_paper: "(source, target, value)",
            hurried_number: "(source, target, prices, *, ahead=0)", hurried_paper: "(source, target, prices, *, ahead=0)",
            is_hurried_paper: "(source, target, prices, value, *, ahead=0)",
        }
        for function, told in wanted.items():
            self.assertEqual(str(inspect.signature(function)), told)
            self.assertEqual(function.__module__, module.__name__)
        self.assertEqual(module.MAX_AHEAD, 2)
