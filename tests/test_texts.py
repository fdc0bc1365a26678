import inspect
import random
import unittest

from mendnumber.base.changes import least_changes
from mendnumber.base.prices import Prices
from mendnumber.decide.greatest import is_mend_paper, mend_paper
from mendnumber.errors import InvalidChange, InvalidForm, InvalidOperation, InvalidPrices, InvalidWord, ParseError
from mendnumber.forms.form import Form
from mendnumber.text import texts as module
from mendnumber.text.texts import (
    read_changes, read_form, read_paper, read_prices, read_word, write_changes, write_form, write_paper, write_prices, write_word,
)
from oracles import wrong_forms, wrong_prices
from pairs import AHEAD, ANY, EMPTY, FIVE, LINE, ONE, PAIRS, ROUGH, ROWS, SLOW, THREES, some_triples
from papers import is_int, is_word
from values import EIGHTS, FIVES, SIXTY_DIGITS, near, odd_values, some_forms, some_prices

FORTY = EIGHTS & FIVES
TABLE = {0: ((0, 1, 2), (1, 0, 1))}


def near_texts(text):
    """Texts that differ from a text in one place."""
    found = [text + " ", " " + text, text + "\n", "\n" + text, text + ",", text + ";", text.upper(), text + text, "", "-", "- "]
    for at in range(len(text)):
        found += [text[:at] + text[at + 1:], text[:at] + text[at] * 2 + text[at + 1:], text[:at] + "0" + text[at:]]
        found += [text[:at] + other + text[at + 1:] for other in " -*;,:0159aefgp\n"]
        found.append(text[:at] + text[at + 1:at + 2] + text[at] + text[at + 2:])
    return [one for one in found if one != text]


class ReadingTest(unittest.TestCase):
    def check(self, values, write, read, equal=None):
        """Each value has one text, which is read as this value, and other texts are read as other values or not at all."""
        texts = {}
        for value in values:
            text = write(value)
            self.assertIs(type(text), str)
            self.assertEqual(read(text), value)
            self.assertEqual(write(read(text)), text)
            texts[text] = value
        for text in list(texts)[:25]:
            for other in near_texts(text)[:800]:
                try:
                    value = read(other)
                except ParseError as error:
                    self.assertTrue(error.at is None or read is read_paper)
                else:
                    self.assertEqual(write(value), other)
        for value in odd_values():
            if type(value) is not str:
                with self.assertRaises(ParseError) as caught:
                    read(value)
                self.assertIs(caught.exception.at, None)

    def test_words(self):
        self.check(["", "a", "e", "abcde", "a" * 9000], write_word, read_word)
        self.assertEqual((write_word(""), read_word("-"), write_word("ab")), ("-", "", "ab"))

    def test_forms(self):
        self.check(some_forms() + [FORTY, EIGHTS, FIVES, EMPTY, LINE, ROWS], write_form, read_form)
        for form, text in (
            (AHEAD, "a0 b1 *; b1 *"), (PAIRS, "a1 *; b0"), (ANY, "a0 *"), (EMPTY, "*"), (Form.of_words(("e",)), "e1; *"),
            (THREES, "a1 *; a2; a0"),
        ):
            self.assertEqual((write_form(form), read_form(text)), (text, form))
        self.assertEqual(len(read_form(write_form(FORTY))), 40)
        self.assertEqual(read_form(write_form(FORTY)).with_last(3, True).with_last(3, False), FORTY)

    def test_no_forms(self):
        line = "; ".join([f"a{at + 1}" for at in range(39)] + ["*"])
        self.assertEqual(read_form(line), Form.of_words(("a" * 39,)))
        for text in (
            "a1; " + "; ".join([f"a{at + 2}" for at in range(39)] + ["*"]), "", "a0", "a1 *", "a0 *; b0 *", "b0 a0 *", "a0  *", "a00 *", "a0 *;",
            "a0 *; ", "a0*", "* a0", "a0 * *", "a0 a0 *", "f0 *", "A0 *", "a-0 *", "a+0 *", "a0 *\n", "a" + "9" * 9000 + " *", "a0 *;b0 *", "0 *",
            "aa0 *", "a *", "a0; b0", "a1; *; *", "**", "-", "a0\t*", "a" + "0" * 60 + " *",
        ):
            with self.assertRaises(ParseError) as caught:
                read_form(text)
            self.assertIs(caught.exception.at, None)

    def test_prices(self):
        self.check(some_prices() + [ROUGH, FIVE], write_prices, read_prices)
        self.assertEqual(write_prices(SLOW), "put a9 b1; out a2 b9; swap ba1")
        self.assertEqual(write_prices(Prices(put={"c": 3}, out={"c": 9}, swap={})), "put c3; out c9; swap -")
        self.assertEqual(write_prices(ONE), "put a1 b1; out a1 b1; swap ab1 ba1")
        self.assertEqual(read_prices("put a9 b1; out a2 b9; swap ba18"), SLOW.with_price(("swap", "b", "a"), 18))
        for text in (
            "put a9 b1; out a2 b9; swap ba19", "put a10 b1; out a2 b9; swap ba1", "put a9 b1; out a2; swap -", "put b1 a9; out a2 b9; swap -",
            "put a9 b1; out a2 b9; swap ba1 ab1", "put a9 b1; out a2 b9; swap", "put a9 b1; out a2 b9; swap ", "put a0; out a1; swap -",
            "put a01; out a1; swap -", "put ; out ; swap -", "put -; out -; swap -", "put a1; out a1; swap aa1", "put a1; out a1; swap ab1",
            "put a1; out a1; swap -; ", "out a1; put a1; swap -", "put a1, out a1, swap -", "put a1; out a1", "", "put a1; out a1; swap a1",
            "put a1 a1; out a1; swap -", "put a1; out a1; swap ab1 ab1", "put a" + "9" * 9000 + "; out a1; swap -",
        ):
            with self.assertRaises(ParseError) as caught:
                read_prices(text)
            self.assertIs(caught.exception.at, None)

    def test_changes(self):
        chance = random.Random(8)
        rows = [(), (("put", 0, "a"), ("out", 1)), (("swap", SIXTY_DIGITS, "e"),), (("out", 0),) * 3, (("put", 2, "b"), ("swap", 2, "b"))]
        for _ in range(20):
            one, other = ("".join(chance.choices("abcde", k=chance.randint(0, 6))) for _ in range(2))
            rows.append(least_changes(one, other, ROUGH))
        self.check(rows, write_changes, read_changes)
        self.assertEqual(write_changes((("put", 0, "a"), ("out", 1), ("swap", 2, "b"))), "put 0 a, out 1, swap 2 b")
        self.assertEqual((write_changes(()), read_changes("-")), ("-", ()))
        for text in (
            "", "put 0 a,out 1", "put 00 a", "put 0 f", "put 0", "out 1 a", "out", "out -1", "out 01", "-, out 1", "out 1, -", "put 0 ab", "swap 1",
            "out " + "9" * 61, "out " + "9" * 9000, "out 1,", "out 1, ", " out 1", "out 1\n", "put  0 a", "turn 1 a", "put a 0", "put 0 ",
        ):
            with self.assertRaises(ParseError) as caught:
                read_changes(text)
            self.assertIs(caught.exception.at, None)

    def test_papers(self):
        papers = [mend_paper(*triple) for triple in some_triples(6)]
        papers += [
            ("bounded", 1, "", TABLE), ("bounded", SIXTY_DIGITS, "a" * 4000, {0: ((1,), (0,)), 1: ((SIXTY_DIGITS,), (3,), (3,))}),
            ("grows", ("", "aa", "")), ("grows", ("a", "b", "", "cde", "")), ("bounded", 0, "ab", {at: ((0, 0),) for at in range(12)}),
        ]
        self.check(papers, write_paper, read_paper)
        self.assertEqual(write_paper(("bounded", 1, "a", {0: ((0, 1, 2), (1, 0, 1)), 1: ((7, 7, 70),)})),
                         "bounded 1\na\n0: 0 1 2, 1 0 1\n1: 7 7 70")
        self.assertEqual(write_paper(("bounded", 1, "a", {1: ((7,),), 0: ((0,),)})), "bounded 1\na\n0: 0\n1: 7")
        self.assertEqual(write_paper(("grows", ("", "aa", ""))), "grows\n-\naa\n-")
        self.assertIs(is_mend_paper(ANY, THREES, ONE, read_paper(write_paper(mend_paper(ANY, THREES, ONE)))), True)

    def test_lines_of_papers(self):
        for text, at in (
            ("", 0), ("\n", 0), ("grow", 0), ("grows ", 0), ("bounded", 0), ("bounded ", 0), ("bounded 01", 0), ("bounded -1\na\n0: 1", 0),
            ("bounded 1 \na\n0: 1", 0), (" grows\n-\na\n-", 0), ("bounded 1\nf\n0: 1", 1), ("bounded 1\n\n0: 1", 1), ("bounded 1\n0: 1\n0: 1", 1),
            ("bounded 1\na\na\n0: 1", 2), ("bounded 1\na\n0: 1\n", 3), ("bounded 1\na\n0: 1\n1:1", 3), ("bounded 1\na\n0: 1\n1: ", 3),
            ("bounded 1\na\n0: 1,2", 2), ("bounded 1\na\n0: 1, 2 ", 2), ("bounded 1\na\n0: 1  2", 2), ("bounded 1\na\n00: 1", 2),
            ("bounded 1\na\n0: 01", 2), ("bounded 1\na\n: 1", 2), ("bounded 1\na\n0 1", 2), ("bounded 1\na\n0: 1: 2", 2), ("bounded 1\na\n0: -", 2),
            ("grows\n-\naa\n-\n", 4), ("grows\n-\n\n-", 2), ("grows\nf\nf\n", 1), ("grows\n-\n0: 1\n-", 2), ("grows\n-\n-\naa ", 3), ("grows\n", 1),
            ("bounded 1\n- \n0: 1", 1), ("bounded 1\r\na\n0: 1", 0), ("bounded a\nf", 0), ("bounded 1\ngrows", 1), ("grows\ngrows", 1),
            ("bounded 1", None), ("bounded 1\na", None), ("grows", None), ("grows\n-", None), ("grows\n-\na", None), ("grows\n-\n-\n-", None),
            ("grows\n-\na\n-\n-", None), ("grows\n-\na\n-\n-\n-", None), ("bounded 1\na\n1: 1", None), ("bounded 1\na\n0: 1\n0: 1", None),
            ("bounded 1\na\n0: 1\n2: 1", None), ("bounded 1\na\n0: 1, 1 2", None), ("bounded 1\na\n0: 1 1\n1: 1", None),
            ("bounded 1\na\n1: 1\n0: 1", None), ("bounded " + "9" * 61 + "\na\n0: 1", None), ("bounded 1\na\n0: " + "9" * 61, None),
            ("bounded 1\na\n" + "9" * 8000 + ": 1", None),
        ):
            with self.assertRaises(ParseError) as caught:
                read_paper(text)
            self.assertEqual(caught.exception.at, at, text[:60])
        self.assertEqual(read_paper("bounded 1\n-\n0: 5, 5, 1"), ("bounded", 1, "", {0: ((5,), (5,), (1,))}))


class WritingTest(unittest.TestCase):
    def test_wrong_values(self):
        for value in odd_values():
            if not is_word(value):
                with self.assertRaises(InvalidWord):
                    write_word(value)
        for value in wrong_forms():
            with self.assertRaises(InvalidForm):
                write_form(value)
        for value in wrong_prices():
            with self.assertRaises(InvalidPrices):
                write_prices(value)

    def test_wrong_changes(self):
        right = (("put", 0, "a"), ("out", 1), ("swap", 2, "b"))
        told = {True: 0, False: 0}
        for value in near(right) + odd_values() + [(("put", SIXTY_DIGITS + 1, "a"),), (("out", True),), (("swap", 0, "ab"),), (("out", -1),)]:
            wanted = type(value) is tuple and all(self.is_change(change) for change in value)
            told[wanted] += 1
            if wanted:
                self.assertEqual(read_changes(write_changes(value)), value)
            else:
                with self.assertRaises(InvalidChange):
                    write_changes(value)
        self.assertGreater(min(told.values()), 5)

    def is_change(self, value):
        if type(value) is not tuple or not 2 <= len(value) <= 3 or not is_int(value[1]) or value[1] < 0:
            return False
        if value[0] == "out":
            return len(value) == 2
        return value[0] in ("put", "swap") and len(value) == 3 and is_word(value[2]) and len(value[2]) == 1

    def test_wrong_papers(self):
        told = {True: 0, False: 0}
        for right in (("bounded", 1, "a", {0: ((0, 1), (1, 0)), 1: ((0, 0),)}), ("grows", ("", "aa", "b", "a", ""))):
            for value in near(right) + odd_values() + [
                ("bounded", 1, "a", {}), ("bounded", 1, "a", {0: ()}), ("bounded", 1, "a", {0: ((),)}), ("bounded", 1, "a", {1: ((0,),)}),
                ("bounded", 1, "a", {False: ((0,),)}), ("bounded", 1, "a", {0: ((0,),), 1: ((0, 0),)}), ("bounded", 1, "a", {0: ((True,),)}),
                ("grows", ("", "", "")), ("grows", ("",)), ("bounded", -1, "a", {0: ((0,),)}), ("bounded", 1, "a", {0: ((-1,),)}),
            ]:
                wanted = self.is_paper(value)
                told[wanted] += 1
                if wanted:
                    self.assertEqual(read_paper(write_paper(value)), value)
                else:
                    with self.assertRaises(InvalidOperation):
                        write_paper(value)
        self.assertGreater(min(told.values()), 10)

    def is_paper(self, value):
        if type(value) is not tuple or not value or type(value[0]) is not str:
            return False
        if value[0] == "grows":
            return (len(value) == 2 and type(value[1]) is tuple and len(value[1]) >= 3 and len(value[1]) % 2 == 1
                    and all(map(is_word, value[1])) and "" not in value[1][1::2])
        if value[0] != "bounded" or len(value) != 4 or not is_int(value[1]) or value[1] < 0 or not is_word(value[2]):
            return False
        table = value[3]
        if type(table) is not dict or not table or sorted(map(repr, table)) != sorted(map(repr, range(len(table)))):
            return False
        if not all(type(rows) is tuple and rows and all(type(row) is tuple and row for row in rows) for rows in table.values()):
            return False
        rows = [row for rows in table.values() for row in rows]
        return len({len(row) for row in rows}) == 1 and all(is_int(number) and number >= 0 for row in rows for number in row)

    def test_interface(self):
        for name in ("word", "form", "prices", "changes", "paper"):
            for kind, told in (("write", f"({name})"), ("read", "(text)")):
                function = getattr(module, f"{kind}_{name}")
                self.assertEqual(str(inspect.signature(function)), told)
                self.assertEqual(function.__module__, module.__name__)
