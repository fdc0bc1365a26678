import inspect
import random
import unittest

from mendnumber.base.changes import changed, price_of
from mendnumber.core.costs import cost
from mendnumber.decide.greatest import dearest_word, is_mend_paper
from mendnumber.desk.desk import Desk
from mendnumber.errors import InvalidPrices
from mendnumber.forms.patterns import read_pattern
from mendnumber.text import shell as module
from mendnumber.text.shell import Shell
from mendnumber.text.texts import read_changes, read_paper, write_form, write_prices
from oracles import wrong_prices
from pairs import ANY, FIVE, FORK, ONE, PAIRS, ROUGH, SIX, THREES
from test_rows import SEVEN
from values import EIGHTS, FIVES, odd_values


def fresh():
    shell = Shell(ONE)
    for command in ("put any a*", "put threes (aaa)*", "put pairs (ab)*"):
        shell(command)
    return shell


class CommandsTest(unittest.TestCase):
    def check(self, shell, *pairs):
        for command, answer in pairs:
            self.assertEqual(shell(command), answer, command)

    def test_news(self):
        shell = Shell(ONE)
        self.check(
            shell, ("names", "none"), ("put any a*", "none"), ("names", "any"), ("put threes (aaa)*", "any threes none 1, threes any none 0"),
            ("names", "any threes"), ("form threes a1 *; b0", "any threes 1 grows, threes any 0 grows"), ("undo", "any threes grows 1, threes any grows 0"),
            ("redo", "any threes 1 grows, threes any 0 grows"), ("undo 1", "any threes grows 1, threes any grows 0"),
            ("prices put a9 b1; out a2 b9; swap ba1", "any threes 1 2"), ("undo 2", "any threes 2 none, threes any 0 none"), ("redo 2", "any threes none 2, threes any none 0"),
            ("remove any", "any threes 2 none, threes any 0 none"), ("undo 0", "none"), ("redo 0", "none"), ("undo", "any threes none 2, threes any none 0"),
            ("prices put a1 b1; out a1 b1; swap -", "any threes 2 1"), ("form any a0 *", "none"), ("form one *", "any one none grows, one any none 0, one threes none 0, threes one none grows"),
        )
        self.assertEqual((len(shell), str(shell)), (19, "shell of 19 commands"))

    def test_pins(self):
        shell = fresh()
        self.check(
            shell, ("pin within any threes 1", "none"), ("pin bounded threes any", "none"), ("pin has any aaaa", "none"), ("pin has pairs -", "none"),
            ("pin within any threes 0", "refused within any threes 0"), ("pin bounded any pairs", "refused bounded any pairs"),
            ("pin has threes a", "refused has threes a"), ("pin has pairs ba", "refused has pairs ba"), ("put pairs ab(ab)*", "refused has pairs -"),
            ("pin within any threes 1", "no"), ("unpin within any threes 2", "no"), ("remove any", "no"), ("pin within any any 1", "no"),
            ("pin within any x 1", "no"), ("pin within any threes 501", "no"), ("pin within any threes 500", "none"), ("pin has x a", "no"),
            ("prices put a2 b2; out a2 b2; swap -", "refused within any threes 1"), ("unpin within any threes 1", "none"), ("undo", "none"),
            ("unpin has any aaaa", "none"), ("unpin has pairs -", "none"), ("unpin bounded threes any", "none"), ("unpin has any aaaa", "no"),
        )
        desk = shell.desk()
        self.assertEqual(desk.pins, (("within", "any", "threes", 1), ("within", "any", "threes", 500)))

    def test_questions(self):
        shell = fresh()
        self.check(
            shell, ("number any threes", "1"), ("number any pairs", "grows"), ("number threes any", "0"), ("word any threes", "a"),
            ("word threes any", "-"), ("word any pairs", "no"), ("cost threes aa", "1"), ("cost threes -", "0"), ("cost pairs " + "a" * 1000, "500"),
            ("mend threes aaa", "-"), ("show pairs", "a1 *; b0"), ("show threes", "a1 *; a2; a0"), ("show any", "a0 *"),
            ("paper any any", "no"), ("number any any", "no"), ("word any any", "no"), ("cost any c", "no"), ("mend any ac", "no"),
        )
        for one, other in (("any", "threes"), ("any", "pairs"), ("pairs", "any"), ("threes", "any")):
            paper = read_paper(shell(f"paper {one} {other}"))
            self.assertIs(is_mend_paper(shell.desk()[one], shell.desk()[other], ONE, paper), True)
            if paper[0] == "bounded":
                told = shell(f"word {one} {other}")
                self.assertEqual(dearest_word(shell.desk()[one], shell.desk()[other], ONE), "" if told == "-" else told)
        for word in ("aa", "ba", "bbab", "a" * 50):
            changes = read_changes(shell(f"mend pairs {word}"))
            self.assertIn(changed(word, changes), PAIRS)
            self.assertEqual(price_of(word, changes, ONE), cost(word, PAIRS, ONE))
            self.assertEqual(shell(f"cost pairs {word}"), str(cost(word, PAIRS, ONE)))

    def test_errors(self):
        shell = fresh()
        before, many = shell.desk(), len(shell)
        self.check(
            shell, ("remove x", "unknown x"), ("number x any", "unknown x"), ("number any x", "unknown x"), ("word x y", "unknown x"), ("paper any y", "unknown y"),
            ("cost x aa", "unknown x"), ("cost x c", "unknown x"), ("mend x aa", "unknown x"), ("show x", "unknown x"), ("undo 4", "nothing 4"), ("redo", "nothing 1"),
            ("undo " + "9" * 60, "nothing " + "9" * 60), ("redo 3", "nothing 3"), ("put x aaaaaaa(aaaaaaa)*", "many 12"), ("put x " + "a" * 201, "many 200"),
            ("put x (a|b)*a(a|b)(a|b)(a|b)(a|b)(a)", "many 40"), ("put x (a|b)*a(a|b)(a|b)(a|b)(a)", "many 6"), ("put x c", "no"), ("form x c0 *", "no"),
            (f"form x {write_form(SEVEN)}", "many 6"), (f"form x {write_form(EIGHTS & FIVES)}", "no"), ("prices put a1; out a1; swap -", "no"),
        )
        self.assertEqual((shell.desk(), len(shell)), (before, many))
        shell("put four a")
        self.check(shell, ("put five a", "many 4"), ("put five aaaaaa", "many 6"), ("put five c", "no"), ("undo 5", "nothing 5"))
        for command in range(8):
            self.assertEqual(shell(f"pin within any threes {command + 1}"), "none")
        self.check(shell, ("pin bounded any threes", "many 8"), ("pin bounded any any", "no"))
        self.assertEqual(len(shell), many + 9)

    def test_what_is_no_command(self):
        shell = fresh()
        before, many = shell.desk(), len(shell)
        for command in odd_values() + [
            "", " ", "what", "put", "put any", "put any a* b", "put any  a*", " put any a*", "put any a* ", "PUT any a*", "put Any a*", "put ninechars a*",
            "put any a**", "put any f", "put any (", "put any ", "put  a*", "form any", "form any ", "form any a0", "form any a1 *", "form any a0  *",
            "form any b0 a0 *", "form x1 a0 *", "form a0 *", "remove", "remove any x", "remove x1", "remove ", "prices", "prices put a1", "prices ",
            "prices put a1 b1; out a1 b1; swap ba19", "pin", "pin within", "pin within any threes", "pin within any threes x", "pin within any threes 01",
            "pin within any threes -1", "pin within any threes 1 2", "pin bounded any", "pin bounded any threes 1", "pin has any", "pin has any f", "pin has any ",
            "pin has x1 a", "pin has any " + "a" * 1001, "unpin", "unpin has any " + "a" * 1001, "unpin bounded any", "pin  bounded any threes", "pins",
            "undo x", "undo -1", "undo 01", "undo 1 1", "undo ", "undo  1", "undo +1", "redo 1.0", "undo " + "9" * 61, "undo " + "9" * 8000, "redo " + "1" * 61,
            "number any", "number any threes x", "number", "number any threes ", "number ANY threes", "word any", "paper any", "cost any", "cost any f", "cost any ",
            "cost any a a", "cost any " + "a" * 1001, "mend any " + "a" * 1001, "mend any -a", "show", "show any any", "show x1", "names any", "names ",
            "names\n", "undo\n", "show any\n", "number any\nthrees", "within any threes 1", "pin within any threes " + "1" * 61,
        ]:
            self.assertEqual(shell(command), "what", command)
        self.assertEqual((shell.desk(), len(shell)), (before, many))
        # What is wrong in a command goes ahead of what is unknown, refused or too much.
        for command in ("cost x f", "number x1 y", "remove x1", "pin has x f", "put x f" + "a" * 300, "show X"):
            self.assertEqual(shell(command), "what")

    def test_the_desk_is_a_twin(self):
        shell = fresh()
        desk = shell.desk()
        self.assertEqual(desk, shell.desk())
        desk.remove("any")
        self.assertEqual(shell("names"), "any pairs threes")
        self.assertEqual(desk.undo(many=4) and desk.redo(many=3) and list(desk), ["any", "pairs", "threes"])
        self.assertEqual((type(desk), desk.prices), (Desk, ONE))

    def test_against_a_desk(self):
        chance, shell, desk, done = random.Random(2), Shell(FIVE), Desk(FIVE), 0
        for _ in range(60):
            name, other = chance.sample(("any", "threes", "fork", "b", "six"), 2)
            text, prices = chance.choice(("a*", "(aaa)*", "a*b*", "(ab)*", "abc?")), chance.choice((FIVE, ROUGH, ONE))
            command, change = chance.choice((
                (f"put {name} {text}", lambda: desk.enter(name, read_pattern(text))), (f"form {name} {write_form(FORK)}", lambda: desk.enter(name, FORK)),
                (f"remove {name}", lambda: desk.remove(name)), (f"prices {write_prices(prices)}", lambda: desk.reprice(prices)),
                (f"pin bounded {name} {other}", lambda: desk.pin(("bounded", name, other))), ("undo", desk.undo), ("redo", desk.redo),
                (f"unpin bounded {name} {other}", lambda: desk.unpin(("bounded", name, other))), ("undo 2", lambda: desk.undo(many=2)),
            ))
            answer = shell(command)
            try:
                news = change()
            except Exception:
                self.assertIn(answer.split(" ")[0], ("no", "unknown", "refused", "many", "nothing"))
            else:
                done += 1
                told = [" ".join("grows" if one is None else str(one) for one in row) for row in news]
                self.assertEqual(answer, ", ".join(told) or "none")
            self.assertEqual((shell.desk(), len(shell)), (desk, done))
        self.assertGreater(done, 20)

    def test_class(self):
        for value in wrong_prices():
            with self.assertRaises(InvalidPrices):
                Shell(value)
        shell = Shell(FIVE)
        self.assertEqual((len(shell), str(shell), len(shell.desk()), shell.desk().prices), (0, "shell of 0 commands", 0, FIVE))
        with self.assertRaises(TypeError):
            iter(shell)
        self.assertEqual(str(inspect.signature(Shell)), "(prices)")
        self.assertEqual(str(inspect.signature(Shell.__call__)), "(self, command)")
        for name in ("__call__", "desk", "__len__", "__str__"):
            self.assertIn(name, vars(Shell))
        self.assertEqual(Shell.__module__, module.__name__)
        self.assertEqual([read_pattern(text) for text in ("a*", "(aaa)*", "(aaaaaa)*")], [ANY, THREES, SIX])
