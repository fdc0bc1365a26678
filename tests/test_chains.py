import copy
import inspect
import itertools
import unittest

from mendnumber.decide.greatest import cost_limit
from mendnumber.errors import InvalidForm, InvalidNumber, InvalidOperation, TooMany
from mendnumber.forms.form import Form
from mendnumber.rings import chains as module
from mendnumber.rings.chains import (
    chain_paper, family_word, growing_family, is_bounded, is_chain_paper, is_growing_family, uncovered_chain,
)
from mendnumber.rings.rings import Rings, covers
from oracles import check_order, cost_to, wrong_forms, wrong_numbers
from pairs import AHEAD, ANY, EMPTY, FIVE, FORK, LATE, LINE, PAIRS, ROUGH, ROWS, SIX, THREES, some_pairs, some_triples
from papers import is_chain, is_family, is_word
from test_rows import SEVEN, SEVEN_C
from values import near, odd_values, words_of

NO_ROWS = Form.of_words(("a", "ab", "ccc"))


def chains_of(rings, longest):
    """All rows of rings, each of which leads to the next one."""
    found = level = [(ring,) for ring in rings]
    for _ in range(longest - 1):
        level = [(*chain, ring) for chain in level for ring in rings if rings.leads(chain[-1], ring)]
        found = found + level
    return found


def is_covered(source, target, chain):
    over = Rings(target)
    return any(
        all(covers(target, one, source, ring) for one, ring in zip(row, chain))
        and all(over.leads(one, to) for one, to in zip(row, row[1:]))
        for row in itertools.product(over, repeat=len(chain))
    )


class BoundedTest(unittest.TestCase):
    def test_against_all_rows_of_rings(self):
        counts = {True: 0, False: 0}
        for source, target in some_pairs():
            rings = Rings(source)
            longest = min(3, rings.longest + 1)
            wanted = all(is_covered(source, target, chain) for chain in chains_of(rings, longest))
            if wanted is False or rings.longest <= 3:
                self.assertIs(is_bounded(source, target), wanted)
            counts[is_bounded(source, target)] += 1
        self.assertGreater(min(counts.values()), 60)

    def test_against_costs_below_and_above_the_limit(self):
        for source, target, prices in some_triples(2):
            limit = cost_limit(source, target, prices)
            if is_bounded(source, target):
                words = words_of(source.states, {0: 9, 1: 9, 2: 6}.get(len(source.signs), 4))[-12:]
                self.assertTrue(all(cost_to(word, target, prices) <= limit for word in words))
            else:
                family = growing_family(source, target)
                word = family_word(family, limit // prices.smallest + 1)
                if len(word) < 400:
                    self.assertIn(word, source)
                    self.assertGreater(cost_to(word, target, prices), limit)

    def test_known_pairs(self):
        wanted = [(ANY, THREES, True), (ANY, PAIRS, False), (AHEAD, PAIRS, False), (ANY, AHEAD, True), (AHEAD, ANY, False),
                  (FORK, LATE, True), (LATE, FORK, True), (EMPTY, LINE, True), (LINE, SIX, True), (ANY, EMPTY, False),
                  (PAIRS, ANY, False), (EMPTY, EMPTY, True), (SIX, THREES, True), (ROWS, ROWS, True), (ROWS, FORK, False)]
        for source, target, told in wanted:
            self.assertIs(is_bounded(source, target), told)
        # The same ring again and again in a row adds nothing; two different ones have to be covered in order.
        self.assertIs(is_bounded(AHEAD, Form((({"b": 0, "a": 1}, True), ({"a": 1}, True)))), False)
        self.assertIs(is_bounded(AHEAD, Form((({"a": 0, "b": 0}, True),))), True)


class ChainPaperTest(unittest.TestCase):
    def test_papers(self):
        for source, target in some_pairs():
            if is_bounded(source, target):
                paper = chain_paper(source, target)
                self.assertTrue(is_chain(source, target, paper))
                self.assertIs(is_chain_paper(source, target, paper), True)
                self.assertEqual(list(paper), list(Rings(source)))
                self.assertEqual(chain_paper(source, target), paper)
            else:
                with self.assertRaises(InvalidOperation):
                    chain_paper(source, target)

    def test_known_papers(self):
        self.assertEqual(chain_paper(ANY, THREES), {(0,): (((0, 1, 2),),)})
        self.assertEqual(chain_paper(EMPTY, ANY), {})
        self.assertEqual(chain_paper(LINE, THREES), {})
        both = Form((({"a": 0, "b": 1}, True), ({"a": 1}, True)))
        for value, told in (
            ({(0,): (((0,), (1,)),)}, True), ({(0,): (((0,),), ((1,),))}, True), ({(0,): (((0,),),)}, True),
            ({(0,): (((1,), (0,)),)}, False), ({(0,): (((1,),), ((0,),))}, False), ({(0,): (((0,), (0,)),)}, False),
            ({(0,): (((0,),), ((0,),))}, False), ({(0,): ()}, False), ({(0,): ((),)}, False), ({}, False),
            ({(False,): (((0,),),)}, False), ({(0,): (((False,),),)}, False), ({(0,): [((0,),)]}, False),
        ):
            self.assertIs(is_chain_paper(ANY, both, value), told)
            self.assertIs(is_chain(ANY, both, value), told)
        self.assertIs(is_chain_paper(AHEAD, ANY, {}), False)

    def test_values_near_a_paper(self):
        right = 0
        for source, target in ((ANY, THREES), (AHEAD, AHEAD), (FORK, LATE), (ROWS, ROWS), (EMPTY, ANY), (ANY, PAIRS)):
            paper = chain_paper(source, target) if is_bounded(source, target) else {(0,): (((0, 1),),)}
            before = copy.deepcopy(paper)
            for value in near(paper) + odd_values():
                told = is_chain(source, target, value)
                right += told
                self.assertIs(is_chain_paper(source, target, value), told, value)
            self.assertEqual(paper, before)
        self.assertGreater(right, 0)


class FamilyTest(unittest.TestCase):
    def test_families(self):
        for source, target, prices in some_triples():
            if is_bounded(source, target):
                with self.assertRaises(InvalidOperation):
                    growing_family(source, target)
                continue
            family = growing_family(source, target)
            self.assertTrue(is_family(source, target, family))
            self.assertIs(is_growing_family(source, target, family), True)
            self.assertLessEqual(max(map(len, family)), 4000)
            self.assertEqual(growing_family(source, target), family)
            closed = prices.closed()
            least = min(*closed.put.values(), *closed.out.values(), *closed.swap.values())
            for many in (0, 1, 2, 4):
                self.assertIn(family_word(family, many), source)
                self.assertGreaterEqual(cost_to(family_word(family, many), target, prices), many * least)

    def test_families_with_one_two_and_more_loops(self):
        chains = [
            (ANY, PAIRS, 1), (AHEAD, Form((({"b": 0, "a": 1}, True), ({"a": 1}, True))), 2),
            (Form((({"a": 0, "b": 1}, True), ({"b": 1, "c": 2}, True), ({"c": 2}, True))),
             Form((({"a": 0, "b": 1, "c": 2}, True), ({"b": 1, "a": 3}, True), ({"c": 2, "b": 3}, True), ({"a": 3}, True))), 2),
        ]
        for source, target, many in chains:
            self.assertEqual(len(growing_family(source, target)), 2 * many + 1)

    def test_three_loops_are_needed(self):
        source = Form((({"a": 0, "b": 1}, True), ({"b": 1, "c": 2}, True), ({"c": 2}, True)))
        # Each two rings one behind the other are covered, but not all three.
        target = Form((({"a": 0, "b": 1, "c": 2, "d": 3}, True), ({"b": 1}, True), ({"c": 2}, True),
                       ({"b": 3, "c": 4}, True), ({"c": 4}, True)))
        self.assertIs(is_bounded(source, target), True)
        target = Form((({"d": 1, "e": 2, "a": 4}, True), ({"a": 1, "b": 3}, True), ({"b": 2, "c": 5}, True),
                       ({"b": 3}, True), ({"a": 4, "c": 5}, True), ({"c": 5}, True)))
        self.assertIs(is_bounded(source, target), False)
        family = growing_family(source, target)
        self.assertEqual(len(family), 7)
        self.assertIs(is_growing_family(source, target, ("", "a", "b", "b", "")), False)
        self.assertIs(is_growing_family(source, target, ("", "a", "bbb", "b", "c", "cc", "")), True)
        self.assertEqual(uncovered_chain(source, target), ((0,), (1,), (2,)))

    def test_known_families(self):
        for value, told in (
            (("", "aa", ""), True), (("", "a", ""), False), (("aaa", "aa", "a"), True), (("", "aa"), False), ((), False),
            (("", "", ""), False), (["", "aa", ""], False), (("", "aa", "", "a", ""), True), (("b", "aa", ""), False),
            (("", "aa", "b"), False), (("aa",), False), (("", "aa", "", "a"), False), (("", "aa", None), False),
            (("", "a" * 8000, ""), True), (("", "f", ""), False),
        ):
            self.assertIs(is_growing_family(ANY, PAIRS, value), told)
        self.assertIs(is_growing_family(PAIRS, ANY, ("", "ab", "")), True)
        self.assertIs(is_growing_family(PAIRS, ANY, ("", "ba", "")), False)
        self.assertIs(is_growing_family(PAIRS, ANY, ("a", "ba", "b")), True)
        self.assertIs(is_growing_family(PAIRS, ANY, ("a", "ba", "")), False)
        self.assertIs(is_growing_family(SIX, ANY, ("", "a", "")), False)
        self.assertIs(is_growing_family(SIX, PAIRS, ("", "a" * 6, "")), True)
        self.assertIs(is_growing_family(SIX, PAIRS, ("", "a" * 5, "a")), False)

    def test_values_near_a_family(self):
        for source, target in ((ANY, PAIRS), (PAIRS, ANY), (AHEAD, ANY), (ROWS, FORK), (ANY, THREES)):
            family = ("", "aa", "") if is_bounded(source, target) else growing_family(source, target)
            for value in near(family) + odd_values():
                self.assertIs(is_growing_family(source, target, value), is_family(source, target, value), value)

    def test_words_of_families(self):
        self.assertEqual(family_word(("b", "aa", "", "b", "a"), 2), "baaaabba")
        self.assertEqual(family_word(("b", "aa", "", "b", "a"), 0), "ba")
        self.assertEqual(family_word(("", "a", ""), 1000), "a" * 1000)
        self.assertEqual(family_word(("a", "bc", "d", "e", "a", "b", "c"), 3), "abcbcbcdeeeabbbc")
        self.assertEqual(len(family_word(("", "ab" * 1500, "c"), 1000)), 3000001)
        wrong = [value for value in odd_values() + [("a", "", "b"), ("a", "b"), ("a",), ("a", "b", "c", "", "d"), ["a", "b", "c"],
                                                    ("a", "b", 1), ("a", "f", "b")]
                 if not (type(value) is tuple and len(value) > 2 and all(map(is_word, value)) and value[1])]
        check_order(self, family_word, (("b", "a", ""), wrong, InvalidOperation), (3, wrong_numbers(0, 1000), InvalidNumber))


class UncoveredTest(unittest.TestCase):
    def test_rows(self):
        for source, target in some_pairs():
            if is_bounded(source, target):
                with self.assertRaises(InvalidOperation):
                    uncovered_chain(source, target)
            else:
                chain, rings = uncovered_chain(source, target), Rings(source)
                self.assertIs(type(chain), tuple)
                self.assertTrue(all(ring in rings for ring in chain))
                self.assertTrue(all(one != to and rings.leads(one, to) for one, to in zip(chain, chain[1:])))
                self.assertGreater(len(chain), 0)
                self.assertFalse(is_covered(source, target, chain))

    def test_known_rows(self):
        self.assertEqual(uncovered_chain(ANY, PAIRS), ((0,),))
        self.assertEqual(uncovered_chain(AHEAD, ANY), ((1,),))
        self.assertEqual(uncovered_chain(AHEAD, Form((({"b": 0, "a": 1}, True), ({"a": 1}, True)))), ((0,), (1,)))


class ErrorsTest(unittest.TestCase):
    def test_order(self):
        pairs = ((SEVEN, wrong_forms(), InvalidForm), (SEVEN_C, wrong_forms(), InvalidForm))
        uses = (is_bounded, chain_paper, growing_family, uncovered_chain, lambda *given: is_chain_paper(*given, None),
                lambda *given: is_growing_family(*given, None))
        for use in uses:
            check_order(self, use, *pairs)
            for source, target in ((SEVEN, ANY), (ANY, SEVEN), (SEVEN, SEVEN_C)):
                with self.assertRaises(TooMany) as caught:
                    use(source, target)
                self.assertEqual(caught.exception.limit, 6)
        self.assertIs(is_bounded(SIX, SIX), True)

    def test_what_was_returned_can_be_changed(self):
        paper = chain_paper(ANY, THREES)
        paper.clear()
        self.assertEqual(chain_paper(ANY, THREES), {(0,): (((0, 1, 2),),)})

    def test_prices_have_no_effect(self):
        for name in ("is_bounded", "chain_paper", "growing_family", "uncovered_chain"):
            self.assertEqual(str(inspect.signature(getattr(module, name))), "(source, target)")
        for name in ("is_chain_paper", "is_growing_family"):
            self.assertEqual(str(inspect.signature(getattr(module, name))), "(source, target, value)")
        self.assertEqual(str(inspect.signature(family_word)), "(family, many)")
        for one in (is_bounded, chain_paper, is_chain_paper, growing_family, is_growing_family, family_word, uncovered_chain):
            self.assertEqual(one.__module__, module.__name__)
