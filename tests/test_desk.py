import copy
import inspect
import itertools
import random
import unittest

from mendnumber.base.prices import Prices
from mendnumber.core.costs import cost
from mendnumber.decide.greatest import greatest_cost
from mendnumber.desk import desk as module
from mendnumber.desk.desk import Desk
from mendnumber.errors import (
    InvalidForm, InvalidNumber, InvalidOperation, InvalidPrices, InvalidWord, NothingToUndo, Refused, TooMany, UnknownName,
)
from mendnumber.forms.form import Form
from mendnumber.forms.patterns import read_pattern
from oracles import check_order, wrong_forms, wrong_numbers, wrong_prices, wrong_words
from pairs import AHEAD, ANY, EMPTY, FIVE, FORK, LATE, LINE, ONE, PAIRS, ROUGH, SIX, SLOW, THREES
from papers import is_mend
from test_rows import SEVEN, SEVEN_C
from values import odd_values

ERRORS = (InvalidForm, InvalidNumber, InvalidOperation, InvalidPrices, InvalidWord, NothingToUndo, Refused, TooMany, UnknownName)
WRONG_NAMES = [value for value in odd_values() if value not in ("a", "f", "put", "swap")
               ] + ["A", "any1", "ninechars", "an y", "any\n", "", " a", "a_b", b"a"]


class Model:
    """What a desk should be, with all numbers found anew."""

    def __init__(self, prices):
        self.prices, self.forms, self.pins = prices, {}, ()

    def copy(self):
        other = Model(self.prices)
        other.forms, other.pins = dict(self.forms), self.pins
        return other

    def numbers(self):
        return {(one, other): greatest_cost(self.forms[one], self.forms[other], self.prices)
                for one, other in itertools.permutations(sorted(self.forms), 2)}

    def news(self, before):
        old, new = before.numbers(), self.numbers()
        told = [(*pair, old.get(pair, "none"), new.get(pair, "none")) for pair in sorted({**old, **new})]
        return tuple(one for one in told if one[2] != one[3])

    def failing(self):
        """The first pin that does not hold."""
        for pin in self.pins:
            if pin[0] == "has":
                if pin[2] not in self.forms[pin[1]]:
                    return pin
            else:
                number = greatest_cost(self.forms[pin[1]], self.forms[pin[2]], self.prices)
                if number is None or pin[0] == "within" and number > pin[3]:
                    return pin
        return None

    def changed(self, kind, *given):
        """The model behind a change, or an error that it raises."""
        other = self.copy()
        if kind == "enter":
            other.forms[given[0]] = given[1]
        elif kind == "remove":
            if given[0] not in other.forms:
                return UnknownName
            del other.forms[given[0]]
        elif kind == "reprice":
            other.prices = given[0]
        else:
            names = given[0][1:2] if given[0][0] == "has" else given[0][1:3]
            if not set(names) <= set(self.forms) or (given[0] in self.pins) == (kind == "pin"):
                return InvalidOperation
            other.pins = self.pins + given if kind == "pin" else tuple(pin for pin in self.pins if pin != given[0])
        return other.checked()

    def checked(self):
        if not all(set(form.signs) <= set(self.prices.signs) for form in self.forms.values()):
            return InvalidOperation
        if not all(set(pin[1:2] if pin[0] == "has" else pin[1:3]) <= set(self.forms) for pin in self.pins):
            return InvalidOperation
        if any(len(form) > 6 for form in self.forms.values()) or len(self.forms) > 4 or len(self.pins) > 8:
            return TooMany
        return Refused if self.failing() else self


def state_of(desk):
    return (desk.prices, desk.forms, desk.pins, list(desk), len(desk), str(desk),
            [desk.greatest(*pair) for pair in itertools.permutations(desk, 2)])


def some_change(chance, desk):
    if desk.pins and chance.random() < 0.1:
        return ("unpin", chance.choice(desk.pins))
    kind = chance.choice(("enter", "enter", "enter", "remove", "reprice", "pin", "pin", "pin", "unpin"))
    name, other = chance.sample(("any", "b", "threes", "fork", "zz"), 2)
    if kind == "enter":
        return (kind, name, chance.choice((ANY, THREES, AHEAD, FORK, LINE, EMPTY, SIX, PAIRS, LATE, SEVEN, read_pattern("a*b*c?"))))
    if kind == "remove":
        return (kind, name)
    if kind == "reprice":
        return (kind, chance.choice((ONE, FIVE, ROUGH, FIVE.times(2), SLOW)))
    return (kind, chance.choice((
        ("within", name, other, chance.choice((0, 1, 3, 9, 500))), ("bounded", name, other), ("has", name, chance.choice(("", "aaa", "ab"))),
    )))


def made(desk, change):
    return getattr(desk, change[0])(*change[1:])


class HistoryTest(unittest.TestCase):
    def test_against_a_model(self):
        seen = {}
        for seed in range(10):
            chance, desk, model = random.Random(seed), Desk(FIVE), Model(FIVE)
            past, future = [], []
            for _ in range(60):
                if chance.random() < 0.25:
                    model = self.step(chance, desk, model, past, future, seen)
                else:
                    change = some_change(chance, desk)
                    wanted, before = model.changed(*change), state_of(desk)
                    if isinstance(wanted, Model):
                        news = () if change[0] in ("pin", "unpin") else wanted.news(model)
                        self.assertEqual(desk.trial(change), (news,))
                        self.assertEqual(state_of(desk), before)
                        self.assertEqual(made(desk, change), news)
                        past.append(model)
                        future.clear()
                        model = wanted
                    else:
                        with self.assertRaises(wanted):
                            made(desk, change)
                        with self.assertRaises(wanted):
                            desk.trial(change)
                        self.assertEqual(state_of(desk), before)
                    seen[change[0], wanted if type(wanted) is type else "done"] = True
                self.check(desk, model)
        for kind in (("enter", "done"), ("enter", TooMany), ("enter", Refused), ("enter", InvalidOperation), ("remove", "done"),
                     ("remove", UnknownName), ("remove", InvalidOperation), ("reprice", "done"), ("reprice", InvalidOperation),
                     ("pin", "done"), ("pin", Refused), ("pin", InvalidOperation), ("unpin", "done"), ("unpin", InvalidOperation),
                     ("step", "done"), ("step", NothingToUndo)):
            self.assertIn(kind, seen)

    def step(self, chance, desk, model, past, future, seen):
        """Undo or redo some changes; the model behind them."""
        boards, others, use = chance.choice(((past, future, desk.undo), (future, past, desk.redo)))
        many, before = chance.choice((0, 1, 1, 2, len(boards), len(boards) + 1)), state_of(desk)
        if many > len(boards):
            with self.assertRaises(NothingToUndo) as caught:
                use(many=many)
            self.assertEqual((caught.exception.many, state_of(desk)), (many, before))
            seen["step", NothingToUndo] = True
            return model
        start = model
        for _ in range(many):
            others.append(model)
            model = boards.pop()
        self.assertEqual(use() if many == 1 else use(many=many), model.news(start))
        seen["step", "done"] = True
        return model

    def check(self, desk, model):
        self.assertEqual((desk.prices, desk.forms, desk.pins), (model.prices, model.forms, model.pins))
        self.assertEqual({pair: desk.greatest(*pair) for pair in itertools.permutations(desk, 2)}, model.numbers())
        self.assertEqual((list(desk), len(desk)), (sorted(model.forms), len(model.forms)))
        self.assertEqual(str(desk), f"desk of {len(model.forms)} forms, {len(model.pins)} pins")
        self.assertIs(model.failing(), None)

    def test_behind_undo_and_redo_against_the_same_changes_anew(self):
        chance, desk, kept = random.Random(31), Desk(FIVE), []
        while len(kept) < 25:
            change = some_change(chance, desk)
            try:
                made(desk, change)
                kept.append(change)
            except ERRORS:
                pass
        for many in (0, 3, 25):
            told = desk.undo(many=many)
            back = desk.redo(many=many)
            self.assertEqual(told, tuple((one, other, new, old) for one, other, old, new in back))
            self.assertEqual(desk.undo(many=many), told)
            anew = Desk(FIVE)
            for change in kept[:25 - many]:
                made(anew, change)
            self.assertEqual((state_of(desk), desk), (state_of(anew), anew))
            desk.redo(many=many)
        anew = Desk(FIVE)
        for change in kept:
            made(anew, change)
        self.assertEqual(state_of(desk), state_of(anew))

    def test_redo_is_gone_behind_another_change(self):
        desk = Desk(ONE)
        desk.enter("any", ANY), desk.enter("threes", THREES), desk.undo()
        with self.assertRaises(TooMany):
            desk.enter("seven", SEVEN)
        with self.assertRaises(InvalidOperation):
            desk.pin(("bounded", "any", "threes"))
        desk.trial(("enter", "b", PAIRS)), desk.undo(many=0), desk.twin().enter("c", ANY)
        self.assertEqual(desk.redo(), (("any", "threes", "none", 1), ("threes", "any", "none", 0)))
        desk.undo()
        # A change that changes nothing is a change, too.
        self.assertEqual(desk.reprice(ONE), ())
        for many in (1, 2, 10 ** 60 - 1):
            with self.assertRaises(NothingToUndo) as caught:
                desk.redo(many=many)
            self.assertEqual(caught.exception.many, many)
        self.assertEqual(desk.undo(many=2), ())
        with self.assertRaises(NothingToUndo):
            desk.undo()
        for use in (desk.undo, desk.redo):
            for value in wrong_numbers(0, 10 ** 60 - 1):
                with self.assertRaises(InvalidNumber) as caught:
                    use(many=value)
                self.assertIs(caught.exception.given, value)

    def test_pins_are_undone(self):
        desk = Desk(ONE)
        desk.enter("any", ANY), desk.enter("threes", THREES), desk.pin(("bounded", "any", "threes"))
        with self.assertRaises(InvalidOperation):
            desk.remove("any")
        self.assertEqual((desk.undo(), desk.pins), ((), ()))
        self.assertEqual((desk.redo(), desk.pins), ((), (("bounded", "any", "threes"),)))
        self.assertEqual((desk.unpin(("bounded", "any", "threes")), desk.pins), ((), ()))
        self.assertEqual(desk.remove("any"), (("any", "threes", 1, "none"), ("threes", "any", 0, "none")))

    def test_twins(self):
        desk = Desk(ONE)
        desk.enter("any", ANY), desk.enter("threes", THREES), desk.pin(("has", "any", "a")), desk.undo()
        other = desk.twin()
        self.assertEqual((other, state_of(other)), (desk, state_of(desk)))
        other.redo(), other.remove("threes")
        self.assertEqual((len(desk), desk.pins), (2, ()))
        self.assertEqual(desk.redo(), ())
        self.assertEqual(other.undo(many=4), ())
        self.assertEqual(len(other), 0)


class NewsTest(unittest.TestCase):
    def test_pairs_that_come_go_and_stay(self):
        desk = Desk(ONE)
        self.assertEqual(desk.enter("b", THREES), ())
        self.assertEqual(desk.enter("a", ANY), (("a", "b", "none", 1), ("b", "a", "none", 0)))
        self.assertEqual(desk.enter("a", ANY), ())
        self.assertEqual(desk.enter("a", PAIRS), (("a", "b", 1, None), ("b", "a", 0, None)))
        self.assertEqual(desk.enter("a", AHEAD), (("b", "a", None, 0),))
        self.assertEqual(desk.enter("c", PAIRS), (("a", "c", "none", None), ("b", "c", "none", None), ("c", "a", "none", None),
                                                  ("c", "b", "none", None)))
        self.assertEqual(desk.undo(many=4), (("a", "b", None, 1), ("a", "c", None, "none"), ("b", "c", None, "none"),
                                             ("c", "a", None, "none"), ("c", "b", None, "none")))
        self.assertEqual(desk.reprice(ONE.times(9)), (("a", "b", 1, 9),))
        self.assertEqual(desk.remove("b"), (("a", "b", 9, "none"), ("b", "a", 0, "none")))
        self.assertEqual(desk.undo(many=2), (("a", "b", "none", 1), ("b", "a", "none", 0)))

    def test_trials(self):
        desk = Desk(ONE)
        desk.enter("any", ANY)
        before = state_of(desk)
        told = desk.trial(("enter", "b", THREES), ("pin", ("within", "any", "b", 1)), ("unpin", ("within", "any", "b", 1)),
                          ("reprice", FIVE.times(3)), ("remove", "b"))
        self.assertEqual(told, (
            (("any", "b", "none", 1), ("b", "any", "none", 0)), (), (), (("any", "b", 1, 3),),
            (("any", "b", 3, "none"), ("b", "any", 0, "none")),
        ))
        self.assertEqual(desk.trial(), ())
        for changes, error in (
            ((("enter", "b", THREES), ("remove", "c")), UnknownName), ((("enter", "b", THREES), ("enter", "B", THREES)), InvalidWord),
            ((("enter", "b", THREES), ("pin", ("within", "any", "b", 0))), Refused), ((("enter", "b", None), ("remove", "c")), InvalidForm),
            ((("remove", "c"), ("remove", "c", "d")), InvalidOperation), ((("remove", "any"), ("undo",)), InvalidOperation),
            ((("remove", "any"), ["remove", "any"]), InvalidOperation), ((("reprice", None),), InvalidPrices), ((("pin",),), InvalidOperation),
            ((("enter", "b", SEVEN),), TooMany), (("remove",), InvalidOperation), (((),), InvalidOperation), ((None,), InvalidOperation),
            ((("trial",),), InvalidOperation), (((["remove"], "any"),), InvalidOperation), ((("remove", "c"), 1), InvalidOperation),
        ):
            with self.assertRaises(error):
                desk.trial(*changes)
            self.assertEqual(state_of(desk), before)
        self.assertEqual(desk.undo(), ())

    def test_a_refused_change_can_be_undone_and_redone_as_before(self):
        desk = Desk(ONE)
        desk.enter("a", ANY), desk.enter("b", THREES), desk.pin(("within", "a", "b", 1)), desk.enter("c", PAIRS), desk.undo()
        for call, pin in ((lambda: desk.reprice(ONE.times(2)), ("within", "a", "b", 1)), (lambda: desk.enter("b", PAIRS), ("within", "a", "b", 1)),
                          (lambda: desk.pin(("has", "b", "a")), ("has", "b", "a")), (lambda: desk.pin(("within", "a", "b", 0)), ("within", "a", "b", 0))):
            with self.assertRaises(Refused) as caught:
                call()
            self.assertEqual(caught.exception.claim, pin)
        desk.redo()
        self.assertEqual(list(desk), ["a", "b", "c"])
        desk.undo(many=4)
        self.assertEqual(len(desk), 0)

    def test_the_first_pin_is_told(self):
        desk = Desk(ONE)
        desk.enter("a", ANY), desk.enter("b", THREES)
        pins = (("has", "b", "aaa"), ("within", "a", "b", 5), ("bounded", "b", "a"), ("has", "a", "a"))
        for pin in pins:
            desk.pin(pin)
        self.assertEqual(desk.pins, pins)
        for name, form, pin in (("b", PAIRS, pins[0]), ("a", PAIRS, pins[1]), ("b", Form.of_words(("aaa",)), pins[1]), ("a", THREES, pins[3])):
            with self.assertRaises(Refused) as caught:
                desk.enter(name, form)
            self.assertEqual(caught.exception.claim, pin)
        desk.unpin(pins[0])
        self.assertEqual(desk.pins, pins[1:])


class LimitsTest(unittest.TestCase):
    def test_names(self):
        desk = Desk(ONE)
        desk.enter("z", ANY), desk.enter("eightchr", ANY)
        check_order(self, desk.enter, ("a", WRONG_NAMES, InvalidWord), (SEVEN, wrong_forms(), InvalidForm))
        for value in odd_values() + ["Z", "zz"]:
            with self.assertRaises(UnknownName) as caught:
                desk.remove(value)
            self.assertIs(caught.exception.wanted, value)
            with self.assertRaises(UnknownName) as caught:
                desk[value]
            self.assertIs(caught.exception.wanted, value)
            self.assertIs(value in desk, False)
        self.assertIs("z" in desk, True)
        self.assertEqual((desk["z"], [name for name in desk]), (ANY, ["eightchr", "z"]))

    def test_a_fifth_name(self):
        desk = Desk(ONE)
        for name in ("a", "b", "c", "d"):
            desk.enter(name, THREES)
        for form, error in ((ANY, 4), (SEVEN, 6)):
            with self.assertRaises(TooMany) as caught:
                desk.enter("e", form)
            self.assertEqual(caught.exception.limit, error)
        with self.assertRaises(InvalidOperation):
            desk.enter("e", SEVEN_C)
        with self.assertRaises(TooMany):
            desk.enter("d", SEVEN)
        self.assertEqual(len(desk.enter("d", ANY)), 3)

    def test_a_ninth_pin(self):
        desk = Desk(ONE)
        desk.enter("a", ANY), desk.enter("b", THREES)
        for number in (0, 500, 1, 2):
            desk.pin(("within", "b", "a", number))
        for word in ("", "a", "a" * 8000, "aa"):
            desk.pin(("has", "a", word))
        for pin in (("has", "a", "aaa"), ("has", "b", "a")):
            with self.assertRaises(TooMany) as caught:
                desk.pin(pin)
            self.assertEqual(caught.exception.limit, 8)
        for pin in (("has", "a", ""), ("has", "c", ""), ("within", "b", "a", 501)):
            with self.assertRaises(InvalidOperation):
                desk.pin(pin)
        desk.unpin(("has", "a", "a"))
        with self.assertRaises(Refused):
            desk.pin(("has", "b", "a"))

    def test_no_pins(self):
        desk = Desk(ONE)
        desk.enter("a", ANY), desk.enter("b", THREES), desk.pin(("within", "a", "b", 1))
        wrong = odd_values() + [
            ("within", "a", "b"), ("within", "a", "b", 501), ("without", "a", "b", 1), ("within", "a", "b", -1), ("within", "a", "b", True), ("within", "a", "b", "1"),
            ("within", "a", "a", 1), ("within", "a", "c", 1), ("within", "b", "a", 1, 1), ("bounded", "a", "a"), ("bounded", "c", "a"),
            ("bounded", "a", "b", 1), ["bounded", "a", "b"], ("bounded", ["a"], "b"), ("has", "a", "f"), ("has", "c", "a"), ("has", "a"),
            ("has", "a", ("a",)), ("has", "a", None), ("hat", "a", "a"), ("within", "a", "b", None), ("has", 1, "a"), ("within", "a", "b", 10 ** 60),
        ]
        before = state_of(desk)
        for value in wrong:
            for use in (desk.pin, desk.unpin):
                with self.assertRaises(InvalidOperation):
                    use(value)
        with self.assertRaises(InvalidOperation):
            desk.pin(("within", "a", "b", 1))
        with self.assertRaises(InvalidOperation):
            desk.unpin(("within", "a", "b", 2))
        self.assertEqual(state_of(desk), before)

    def test_prices(self):
        for value in wrong_prices():
            with self.assertRaises(InvalidPrices):
                Desk(value)
            desk = Desk(ONE)
            with self.assertRaises(InvalidPrices):
                desk.reprice(value)
            with self.assertRaises(InvalidPrices):
                desk.prices = value
        desk = Desk(FIVE)
        desk.enter("a", ANY), desk.enter("c", ANY.renamed({"a": "c"}))
        with self.assertRaises(InvalidOperation):
            desk.prices = ONE
        desk.prices = ROUGH
        self.assertEqual((desk.prices, desk.undo(), desk.prices), (ROUGH, (), FIVE))
        desk = Desk(Prices.even(("a",)))
        desk.prices = ONE
        self.assertEqual((desk.prices, str(desk)), (ONE, "desk of 0 forms, 0 pins"))


class QuestionsTest(unittest.TestCase):
    def desk(self):
        desk = Desk(FIVE)
        desk.enter("line", LINE), desk.enter("empty", EMPTY), desk.enter("any", ANY), desk.enter("threes", THREES)
        return desk

    def test_numbers_and_papers(self):
        desk = self.desk()
        for one, other in itertools.permutations(desk, 2):
            self.assertEqual(desk.greatest(one, other), greatest_cost(desk[one], desk[other], FIVE))
            self.assertTrue(is_mend(desk[one], desk[other], FIVE, desk.paper(one, other)))
        for use in (desk.greatest, desk.paper, desk.between):
            for name in ("any", "line"):
                with self.assertRaises(InvalidOperation):
                    use(name, name)
            for value in odd_values():
                for given in ((value, "any"), ("any", value), (value, None), (value, value)):
                    with self.assertRaises(UnknownName) as caught:
                        use(*given)
                    self.assertIs(caught.exception.wanted, value)

    def test_costs(self):
        desk = self.desk()
        for word in ("", "a", "abc", "ccab", "a" * 1000):
            costs = desk.costs(word)
            self.assertEqual(costs, {name: cost(word, desk[name], FIVE) for name in desk})
            self.assertEqual(list(costs), sorted(desk))
        for value in wrong_words():
            with self.assertRaises(InvalidWord):
                desk.costs(value)
        for desk in (Desk(ONE), Desk(ONE)):
            with self.assertRaises(InvalidOperation):
                desk.costs("abc")
            self.assertEqual(desk.costs("ab"), {})

    def test_between(self):
        desk = self.desk()
        for one, other in itertools.permutations(desk, 2):
            wanted = []
            for name in sorted(desk):
                if name not in (one, other):
                    parts = (desk.greatest(one, name), desk.greatest(name, other))
                    if None not in parts and sum(parts) == desk.greatest(one, other):
                        wanted.append(name)
            self.assertEqual(desk.between(one, other), tuple(wanted))
        self.assertEqual(desk.between("any", "line"), ())
        desk.remove("line"), desk.enter("same", ANY)
        self.assertEqual((desk.between("any", "threes"), desk.between("same", "threes")), (("same",), ("any",)))

    def test_equality(self):
        desk, other = Desk(ONE), Desk(ONE)
        desk.enter("a", ANY), desk.enter("b", THREES)
        other.enter("b", THREES), other.enter("c", ANY), other.enter("a", Form(ANY.states)), other.remove("c")
        self.assertEqual(desk, other)
        pins = (("has", "a", ""), ("bounded", "a", "b"))
        desk.pin(pins[0]), desk.pin(pins[1]), other.pin(pins[1]), other.pin(pins[0])
        self.assertNotEqual(desk, other)
        other.unpin(pins[1]), other.pin(pins[1])
        self.assertEqual(desk, other)
        other.reprice(SLOW)
        self.assertNotEqual(desk, other)
        for value in odd_values() + [{"a": ANY, "b": THREES}]:
            self.assertIs(desk == value, False)
            self.assertIs(desk != value, True)

    def test_what_was_returned_can_be_changed(self):
        desk = self.desk()
        before = state_of(desk)
        desk.forms.clear(), desk.costs("a").clear(), desk.twin().remove("any")
        self.assertEqual(state_of(desk), before)
        for name in ("forms", "pins"):
            with self.assertRaises(AttributeError):
                setattr(desk, name, {})
        self.assertEqual(list(desk.forms), sorted(desk))

    def test_arguments_are_not_changed(self):
        desk = self.desk()
        for value in odd_values():
            before = copy.deepcopy(value)
            for use in (desk.pin, desk.unpin, desk.remove, desk.reprice, desk.trial, desk.costs, lambda one: desk.enter("x", one)):
                try:
                    use(value)
                except ERRORS:
                    pass
            self.assertEqual(value, before)

    def test_interface(self):
        wanted = {
            "enter": "(self, name, form)", "remove": "(self, name)", "reprice": "(self, prices)", "pin": "(self, pin)", "unpin": "(self, pin)",
            "trial": "(self, *changes)", "undo": "(self, *, many=1)", "redo": "(self, *, many=1)", "greatest": "(self, one, other)",
            "paper": "(self, one, other)", "costs": "(self, word)", "between": "(self, one, other)", "twin": "(self)",
        }
        for name, told in wanted.items():
            self.assertEqual(str(inspect.signature(getattr(Desk, name))), told)
        for name in (*wanted, "prices", "forms", "pins", "__getitem__", "__contains__", "__len__", "__iter__", "__eq__", "__str__"):
            self.assertIn(name, vars(Desk))
        self.assertEqual(str(inspect.signature(Desk)), "(prices)")
        self.assertEqual((Desk.__module__, module.MAX_FORMS, module.MAX_PINS), (module.__name__, 4, 8))
