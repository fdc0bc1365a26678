import doctest
import unittest

from mendnumber.base.prices import Prices
from mendnumber.base.words import ordered, words_upto

STAGE_1 = """
>>> [ordered(("b", "ab", "", "b")), list(words_upto(("a", "b"), 2))]
[('', 'b', 'ab'), ['', 'a', 'b', 'aa', 'ab', 'ba', 'bb']]
>>> SLOW = Prices(put={"a": 9, "b": 1}, out={"a": 2, "b": 9}, swap={("b", "a"): 1})
>>> [SLOW.closed().put, SLOW.closed().out, SLOW.closed().swap, SLOW.smallest, SLOW.is_closed(), str(SLOW)]
[{'a': 2, 'b': 1}, {'a': 2, 'b': 3}, {('a', 'b'): 3, ('b', 'a'): 1}, 1, False, 'prices of 2 signs, 1 swaps']
>>> ONE = Prices.even(("a", "b"))
>>> [ONE.put, ONE.out, ONE.swap]
[{'a': 1, 'b': 1}, {'a': 1, 'b': 1}, {('a', 'b'): 1, ('b', 'a'): 1}]
"""


class ExamplesTest(unittest.TestCase):
    def check(self, text, **names):
        case = doctest.DocTestParser().get_doctest(text, names, "examples", None, 0)
        report = []
        failed, tried = doctest.DocTestRunner().run(case, out=report.append)
        self.assertEqual((failed, tried), (0, text.count(">>> ")), "".join(report))

    def test_stage_1(self):
        self.check(STAGE_1, Prices=Prices, ordered=ordered, words_upto=words_upto)
