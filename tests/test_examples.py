import doctest
import pathlib
import unittest

from mendnumber.base.changes import alignment, changed, distance, least_changes, price_of, undone
from mendnumber.base.prices import Prices
from mendnumber.base.words import ordered, words_upto
from mendnumber.core.costs import cost, costs_by, is_mending, mending, nearest_words
from mendnumber.core.rows import end_cost, row_behind, row_of, start_row
from mendnumber.decide.greatest import cost_limit, dearest_word, greatest_cost, is_close, is_mend_paper, mend_paper, spread
from mendnumber.decide.tables import costs_at_most, first_above, is_bound_table, level_form
from mendnumber.desk.desk import Desk
from mendnumber.forms.form import Form, is_least
from mendnumber.forms.joins import first_apart
from mendnumber.forms.patterns import read_pattern, turned_pattern
from mendnumber.game.hurried import hurried_number, is_hurriable, ring_paper
from mendnumber.rings.chains import chain_paper, family_word, is_bounded, is_growing_family
from mendnumber.rings.rings import Rings, covers, lacking_piece
from mendnumber.text.shell import Shell
from mendnumber.text.texts import read_form, write_changes, write_form, write_paper, write_prices
from mendnumber.use.menders import Mender, Rereader
from mendnumber.use.parts import (
    best_target, cheapest_guard, close_classes, spare_moves, spare_swaps, without_moves,
)
from values import AHEAD, ANY, ONE, PAIRS, SLOW, THREES

VALUES = """
>>> ANY == Form((({"a": 0}, True),)) and PAIRS == Form((({"a": 1}, True), ({"b": 0}, False)))
True
>>> THREES == Form((({"a": 1}, True), ({"a": 2}, False), ({"a": 0}, False)))
True
>>> AHEAD == Form((({"a": 0, "b": 1}, True), ({"b": 1}, True))) and ONE == Prices.even(("a", "b"))
True
"""
STAGE_1 = """
>>> [ordered(("b", "ab", "", "b")), list(words_upto(("a", "b"), 2))]
[('', 'b', 'ab'), ['', 'a', 'b', 'aa', 'ab', 'ba', 'bb']]
>>> SLOW = Prices(put={"a": 9, "b": 1}, out={"a": 2, "b": 9}, swap={("b", "a"): 1})
>>> [SLOW.closed().put, SLOW.closed().out, SLOW.closed().swap, SLOW.smallest, SLOW.is_closed(), str(SLOW)]
[{'a': 2, 'b': 1}, {'a': 2, 'b': 3}, {('a', 'b'): 3, ('b', 'a'): 1}, 1, False, 'prices of 2 signs, 1 swaps']
>>> ONE = Prices.even(("a", "b"))
>>> [ONE.put, ONE.out, ONE.swap]
[{'a': 1, 'b': 1}, {'a': 1, 'b': 1}, {('a', 'b'): 1, ('b', 'a'): 1}]
"""
STAGE_2 = """
>>> [changed("ab", (("put", 2, "a"), ("swap", 0, "b"), ("out", 1))), undone("ab", (("out", 0), ("swap", 0, "a")))]
['ba', (('swap', 0, 'b'), ('put', 0, 'a'))]
>>> [distance("", "a", SLOW), least_changes("", "a", SLOW), distance("abab", "aab", ONE), alignment("ab", "b", ONE)]
[2, (('put', 0, 'b'), ('swap', 0, 'a')), 1, ((0, None), (1, 0))]
"""
STAGE_3 = """
>>> [PAIRS.walk("abb"), "abab" in PAIRS, list(PAIRS.words(4)), AHEAD.count(3), THREES.is_finite(), str(PAIRS)]
[(0, 1, 0), True, ['', 'ab', 'abab'], 4, False, 'form of 2 states, 2 signs']
>>> TWICE = Form((({"b": 1}, True), ({"b": 0}, True)))
>>> [TWICE.least().states, is_least(TWICE), len(Form.of_words(("ab", "b"))), AHEAD.with_last(0, False).first]
[(({'b': 0}, True),), False, 3, 'b']
"""
STAGE_4 = """
>>> [(ANY | PAIRS).states[0], len(ANY & THREES), list((ANY - THREES).words(4)), len(PAIRS.backward()), first_apart(AHEAD, PAIRS)]
[({'a': 1}, True), 3, ['a', 'aa', 'aaaa'], 2, 'a']
"""
STAGE_5 = """
>>> [read_pattern("(ab)*") == PAIRS, read_pattern("(aaa)*") == THREES, list(read_pattern("a(b|())c?").words(3)), turned_pattern("a(b|cd)*e")]
[True, True, ['a', 'ab', 'ac', 'abc'], 'e(b|dc)*a']
"""
STAGE_6 = """
>>> [start_row(THREES, ONE), row_of(THREES, ONE, "aa"), end_cost(THREES, row_of(THREES, ONE, "aa")), row_behind(THREES, ONE, (5, 0, 7), "b")]
[(0, 1, 2), (1, 1, 0), 1, (2, 1, 1)]
"""
STAGE_7 = """
>>> [cost("aa", THREES, ONE), list(nearest_words("aa", THREES, ONE)), cost("ba", PAIRS, ONE), list(nearest_words("ba", PAIRS, ONE))]
[1, ['aaa'], 2, ['', 'ab', 'abab']]
>>> [changed("aa", mending("aa", THREES, ONE)), is_mending("aa", THREES, ONE, (("put", 1, "a"),)), costs_by(ANY, THREES, ONE, many=2)]
['aaa', True, {'': 0, 'a': 1, 'aa': 1}]
"""
STAGE_8 = """
>>> [costs_at_most(ANY, THREES, ONE, 1), first_above(ANY, THREES, ONE, 0), first_above(ANY, PAIRS, ONE, 3), level_form(ANY, THREES, ONE, 0) == THREES]
[True, 'a', 'aaaaaaa', True]
>>> table = {0: ((0, 1, 2), (1, 0, 1), (1, 1, 0))}
>>> [is_bound_table(ANY, THREES, ONE, 1, table), is_bound_table(ANY, THREES, ONE, 0, table), is_bound_table(ANY, THREES, ONE, 1, {0: ((0, 1, 1),)})]
[True, False, False]
"""
STAGE_9 = """
>>> rings = Rings(AHEAD)
>>> [rings.rings, rings.longest, rings.leads((0,), (1,)), rings.leads((1,), (0,)), list(Rings(PAIRS).loops(0, 4)), rings.reads((0,), "ab")]
[((0,), (1,)), 2, True, False, ['ab', 'abab'], False]
>>> [covers(THREES, (0, 1, 2), ANY, (0,)), covers(PAIRS, (0, 1), ANY, (0,)), lacking_piece(PAIRS, (0, 1), ANY, (0,))]
[True, False, 'aa']
"""
STAGE_10 = """
>>> [is_bounded(ANY, THREES), is_bounded(ANY, PAIRS), is_bounded(AHEAD, PAIRS), is_bounded(ANY, AHEAD), is_bounded(AHEAD, ANY)]
[True, False, False, True, False]
>>> [chain_paper(ANY, THREES), is_growing_family(ANY, PAIRS, ("", "aa", "")), is_growing_family(ANY, PAIRS, ("", "a", "")), family_word(("b", "aa", "", "b", "a"), 2)]
[{(0,): (((0, 1, 2),),)}, True, False, 'baaaabba']
"""
STAGE_11 = """
>>> [greatest_cost(ANY, THREES, ONE), dearest_word(ANY, THREES, ONE), greatest_cost(ANY, PAIRS, ONE), greatest_cost(PAIRS, PAIRS, ONE), cost_limit(ANY, THREES, ONE)]
[1, 'a', None, 0, 4]
>>> TABLE = {0: ((0, 1, 2), (1, 0, 1), (1, 1, 0))}
>>> [mend_paper(ANY, PAIRS, ONE)[0], is_mend_paper(ANY, THREES, ONE, ("bounded", 1, "aa", TABLE)), is_mend_paper(ANY, PAIRS, ONE, ("grows", ("", "aa", "")))]
['grows', True, True]
>>> [list(spread(ANY, THREES, ONE)), spread(ANY, THREES, ONE)[0] == THREES, is_close(AHEAD, ANY)]
[[0, 1], True, False]
"""
STAGE_12 = """
>>> FORK = Form((({"a": 0, "b": 1, "c": 2}, True), ({"b": 1}, True), ({"c": 2}, True)))
>>> LATE = read_pattern("da*b*|ea*c*")
>>> FIVE = Prices.even(("a", "b", "c", "d", "e"))
>>> [greatest_cost(FORK, LATE, FIVE), is_bounded(FORK, LATE), is_hurriable(FORK, LATE), hurried_number(FORK, LATE, FIVE, ahead=2)]
[1, True, False, None]
>>> [hurried_number(ANY, THREES, ONE), hurried_number(ANY, THREES, ONE, ahead=2), ring_paper(ANY, THREES)]
[2, 1, (((0,), (0, 1, 2)),)]
"""
STAGE_13 = """
>>> mender = Mender(ANY, THREES, ONE, ahead=2)
>>> [mender.feed("aa"), mender.feed("aa"), mender.waiting, mender.end(), mender.paid, len(mender.result), str(mender)]
['', 'aa', 'aa', 'a', 1, 3, 'mender: 4 signs, paid 1 of 1']
>>> [Rereader(ANY, THREES, ONE)("aaaa"), price_of("aaaa", Rereader(ANY, THREES, ONE).mending("aaaa"), ONE), mender("aaaa")]
['aaa', 1, 'aaa']
"""
STAGE_14 = """
>>> [without_moves(AHEAD, ((0, "b"),)) == ANY, spare_moves(ANY, ANY | PAIRS, ONE), spare_swaps(read_pattern("b"), read_pattern("a"), ONE)]
[True, ((1, 'b'), (3, 'a'), (4, 'b')), (('a', 'b'),)]
>>> [cheapest_guard(AHEAD, PAIRS, ONE, {(0, "a"): 2, (1, "b"): 3}), cheapest_guard(AHEAD, PAIRS, ONE, {(1, "b"): 3})]
[((0, 'a'), (1, 'b')), None]
>>> [close_classes((ANY, PAIRS, THREES)), best_target(THREES, (PAIRS, THREES, ANY), ONE)]
[((0, 2), (1,)), 1]
"""
STAGE_15 = """
>>> desk = Desk(ONE)
>>> [desk.enter("any", ANY), desk.enter("threes", THREES), desk.pin(("within", "any", "threes", 2)), desk.costs("aa"), str(desk)]
[(), (('any', 'threes', 'none', 1), ('threes', 'any', 'none', 0)), (), {'any': 0, 'threes': 1}, 'desk of 2 forms, 1 pins']
>>> [desk.reprice(ONE.times(2)), desk.undo(), desk.trial(("enter", "pairs", PAIRS))[0][0], len(desk), desk.greatest("any", "threes")]
[(('any', 'threes', 1, 2),), (('any', 'threes', 2, 1),), ('any', 'pairs', 'none', None), 2, 1]
"""
STAGE_16 = """
>>> [write_form(AHEAD), read_form("a1 *; b0") == PAIRS, write_changes((("put", 0, "a"), ("out", 1))), write_prices(SLOW)]
['a0 b1 *; b1 *', True, 'put 0 a, out 1', 'put a9 b1; out a2 b9; swap ba1']
>>> shell = Shell(ONE)
>>> [shell("put any a*"), shell("put pairs (ab)*"), shell("number any pairs"), shell("cost pairs aa"), shell("show pairs"), shell("word any pairs")]
['none', 'any pairs none grows, pairs any none grows', 'grows', '1', 'a1 *; b0', 'no']
>>> [write_paper(("grows", ("", "aa", ""))), shell("pin bounded any pairs"), shell("put any"), shell("undo 9"), len(shell)]
['grows\\n-\\naa\\n-', 'refused bounded any pairs', 'what', 'nothing 9', 5]
"""


class ExamplesTest(unittest.TestCase):
    def check(self, text, names):
        case = doctest.DocTestParser().get_doctest(text, dict(names), "examples", None, 0)
        report = []
        failed, tried = doctest.DocTestRunner().run(case, out=report.append)
        self.assertEqual((failed, tried), (0, text.count(">>> ")), "".join(report))

    def test_examples(self):
        for text in (VALUES, STAGE_1, STAGE_2, STAGE_3, STAGE_4, STAGE_5, STAGE_6, STAGE_7, STAGE_8, STAGE_9, STAGE_10,
                     STAGE_11, STAGE_12, STAGE_13, STAGE_14, STAGE_15, STAGE_16):
            self.check(text, globals())

    def test_readme(self):
        text = (pathlib.Path(__file__).parent.parent / "README.md").read_text()
        code = text.split("```python\n")[1].split("```")[0]
        names = {}
        for row in code.splitlines():
            told = row.split("  # ")
            if len(told) == 2 and told[1].startswith("-> "):
                self.assertEqual(repr(eval(told[0], names)), told[1][3:], row)
            else:
                exec(told[0], names)
