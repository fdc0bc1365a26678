import inspect
import random
import unittest

from mendnumber.base.changes import changed, distance, price_of
from mendnumber.core.costs import cost, is_mending
from mendnumber.errors import (
    InvalidForm, InvalidNumber, InvalidOperation, InvalidPrices, InvalidWord, NothingToUndo, TooMany,
)
from mendnumber.forms.form import Form
from mendnumber.forms.patterns import read_pattern
from mendnumber.game.hurried import hurried_number, is_hurriable
from mendnumber.rings.chains import is_bounded
from mendnumber.use import menders as module
from mendnumber.use.menders import Mender, Rereader
from oracles import check_order, cost_to, wrong_forms, wrong_numbers, wrong_prices, wrong_words
from pairs import (
    AHEAD, ANY, EMPTY, FIVE, FORK, LATE, LINE, ONE, PAIRS, ROUGH, ROWS, SIX, SLOW, THREES, WIDE, some_triples,
)
from test_rows import SEVEN, SEVEN_C
from values import odd_values, words_of


def some_words(source, many=14):
    words = words_of(source.states, {0: 9, 1: 12, 2: 7}.get(len(source.signs), 5))
    chance = random.Random(len(words))
    return words[:5] + chance.sample(words, min(many, len(words)))


def hurried_tasks(step=1):
    return [(*triple, at % 3) for at, triple in enumerate(some_triples()) if is_hurriable(*triple[:2])][::step]


def state_of(mender):
    return (mender.came, mender.waiting, mender.result, mender.changes, mender.paid, mender.has_ended, mender.promised,
            mender.most, len(mender), str(mender))


class MenderTest(unittest.TestCase):
    def check_state(self, mender, source, target, prices, ahead):
        treated = mender.came[:len(mender.came) - len(mender.waiting)]
        self.assertTrue(mender.came.endswith(mender.waiting))
        self.assertEqual(changed(treated, mender.changes), mender.result)
        self.assertEqual(price_of(treated, mender.changes, prices.closed()), mender.paid)
        self.assertLessEqual(mender.paid, mender.most)
        self.assertLessEqual(mender.most, mender.promised)
        self.assertEqual(len(mender), len(mender.came))
        self.assertEqual(str(mender), f"mender: {len(mender)} signs, paid {mender.paid} of {mender.promised}")
        if mender.has_ended:
            self.assertEqual(mender.waiting, "")
            self.assertIn(mender.result, target)
        else:
            self.assertEqual(len(mender.waiting), min(ahead, len(mender.came)))

    def test_words_piece_by_piece(self):
        chance = random.Random(4)
        for source, target, prices, ahead in hurried_tasks(2):
            fresh = Mender(source, target, prices, ahead=ahead)
            self.assertEqual(fresh.promised, hurried_number(source, target, prices, ahead=ahead))
            self.assertEqual((fresh.most, fresh.paid, fresh.result, fresh.changes), (fresh.promised, 0, "", ()))
            for word in some_words(source):
                mender, at, told = fresh.twin(), 0, ""
                while at < len(word):
                    size, most = chance.choice((0, 1, 1, 2, 3)), mender.most
                    told += mender.feed(word[at:at + size])
                    at += size
                    self.assertEqual((mender.came, mender.result), (word[:at], told))
                    self.assertLessEqual(mender.most, most)
                    self.check_state(mender, source, target, prices, ahead)
                most = mender.most
                told += mender.end()
                self.assertEqual((mender.came, mender.result, mender.has_ended), (word, told, True))
                self.assertLessEqual(mender.most, most)
                self.check_state(mender, source, target, prices, ahead)
                self.assertGreaterEqual(mender.paid, cost_to(word, target, prices))
                self.assertEqual((fresh(word), mender(word), fresh.came), (told, told, ""))

    def test_no_sign_one_and_several(self):
        for ahead in (0, 1, 2):
            for source, target, prices in ((EMPTY, LINE, FIVE), (ANY, THREES, ONE), (LINE, LINE, ROUGH)):
                mender = Mender(source, target, prices, ahead=ahead)
                self.assertEqual((mender.feed(""), len(mender), mender.most), ("", 0, mender.promised))
            mender = Mender(EMPTY, LINE, FIVE, ahead=ahead)
            self.assertEqual((mender.end(), mender.paid, mender.most, mender.has_ended), ("ab", 2, 2, True))
            self.assertEqual(Mender(LINE, LINE, ROUGH, ahead=ahead)("abc"), "abc")
            whole = Mender(ANY, THREES, ONE, ahead=ahead)
            text = whole.feed("a" * 1000) + whole.feed("a" * 1000) + whole.end()
            self.assertEqual((len(whole), text), (2000, whole.result))
            self.assertLessEqual(whole.paid, whole.promised)
            self.assertEqual(len(text) % 3, 0)

    def test_windows(self):
        source, target = Form.of_words(("ab", "ac")), Form.of_words(("db", "ec"))
        for ahead, told, paid in ((0, None, 2), (1, ["", "d", "b"], 1), (2, ["", "", "db"], 1)):
            mender = Mender(source, target, FIVE, ahead=ahead)
            found = [mender.feed("a"), mender.feed("b"), mender.end()]
            self.assertEqual("".join(found), "db" if told else mender.result)
            if told:
                self.assertEqual(found, told)
                self.assertEqual(mender.paid, paid)
            self.assertEqual(mender.promised, paid)
        # With windows that are full at the end of the word, the end decides.
        mender = Mender(ANY, THREES, ONE, ahead=1)
        self.assertEqual([mender.feed("aa"), mender.waiting, mender.feed("a"), mender.waiting], ["a", "a", "a", "a"])
        self.assertEqual([mender.end(), mender.waiting, mender.paid], ["a", "", 0])

    def test_undo(self):
        chance = random.Random(9)
        for source, target, prices, ahead in hurried_tasks(3):
            fresh = Mender(source, target, prices, ahead=ahead)
            for word in some_words(source, 5):
                mender = fresh.twin()
                mender.feed(word), mender.end()
                units = len(word) + 1
                for many in (0, 1, chance.randint(0, units), units):
                    if many <= units:
                        before, whole = mender.result, state_of(mender)
                        with self.assertRaises(NothingToUndo) as caught:
                            mender.undo(many=units + 1)
                        self.assertEqual((caught.exception.many, state_of(mender)), (units + 1, whole))
                        taken = mender.undo(many=many)
                        self.assertEqual(mender.result + taken, before)
                        units -= many
                        other = fresh.twin()
                        other.feed(word[:units])
                        if units > len(word):
                            other.end()
                        self.assertEqual(state_of(mender), state_of(other))
                        self.assertEqual(mender, other)
                rest = word[len(mender.came):]
                if not mender.has_ended:
                    mender.feed(rest), mender.end()
                self.assertEqual(mender.result, fresh(word))

    def test_undo_by_one(self):
        mender = Mender(ANY, THREES, ONE, ahead=2)
        mender.feed("aaaa"), mender.end()
        self.assertEqual([mender.undo(), mender.has_ended, mender.came, mender.waiting, mender.result], ["a", False, "aaaa", "aa", "aa"])
        self.assertEqual([mender.undo(), mender.undo(many=3), len(mender)], ["a", "a", 0])
        with self.assertRaises(NothingToUndo) as caught:
            mender.undo()
        self.assertEqual(caught.exception.many, 1)
        self.assertEqual(mender.undo(many=0), "")
        for value in wrong_numbers(0, 10 ** 60 - 1):
            with self.assertRaises(InvalidNumber) as caught:
                mender.undo(many=value)
            self.assertIs(caught.exception.given, value)
        with self.assertRaises(NothingToUndo):
            mender.undo(many=10 ** 60 - 1)

    def test_foretelling_and_twins(self):
        for source, target, prices, ahead in hurried_tasks(5):
            mender = Mender(source, target, prices, ahead=ahead)
            for word in some_words(source, 4):
                for cut in (0, len(word) // 2, len(word)):
                    here = mender.twin()
                    here.feed(word[:cut])
                    before = state_of(here)
                    told = here.foretell(word[cut:])
                    self.assertEqual(state_of(here), before)
                    other = here.twin()
                    self.assertEqual((other, state_of(other)), (here, before))
                    self.assertEqual(other.feed(word[cut:]) + other.end(), told)
                    self.assertEqual(state_of(here), before)
                    self.assertIs(other == here, False)
                    self.assertEqual(other.result, here.result + told)
                    other.undo(many=len(word) + 1)
                    self.assertEqual((other, state_of(here)), (mender, before))

    def test_refused_words(self):
        mender = Mender(LINE, PAIRS, FIVE, ahead=1)
        mender.feed("a")
        before = state_of(mender)
        for value in wrong_words():
            for call in (mender.feed, mender.foretell, mender):
                with self.assertRaises(InvalidWord):
                    call(value)
        for value in ("a", "c", "bcc", "bca"):
            for call in (mender.feed, mender.foretell):
                with self.assertRaises(InvalidOperation):
                    call(value)
        for value in ("", "a", "abca", "d"):
            with self.assertRaises(InvalidOperation):
                mender(value)
        for value in ("",):
            with self.assertRaises(InvalidOperation):
                mender.foretell(value)
        with self.assertRaises(InvalidOperation):
            mender.end()
        self.assertEqual(state_of(mender), before)
        mender.feed("b"), mender.end()
        before = state_of(mender)
        for call in (lambda: mender.feed(""), lambda: mender.feed("c"), mender.end, lambda: mender.foretell(""), lambda: mender.foretell("c")):
            with self.assertRaises(InvalidOperation):
                call()
        with self.assertRaises(InvalidWord):
            mender.feed("f")
        self.assertEqual(state_of(mender), before)

    def test_equality(self):
        mender = Mender(ANY, THREES, ONE)
        self.assertEqual(mender, Mender(Form(ANY.states), THREES, ONE, ahead=0))
        for other in (Mender(ANY, THREES, ONE, ahead=1), Mender(ANY, THREES, ONE.times(2)), Mender(THREES, THREES, ONE), Mender(ANY, ANY, ONE)):
            self.assertIs(mender == other, False)
            self.assertIs(mender != other, True)
        for value in odd_values():
            self.assertIs(mender == value, False)
        other = mender.twin()
        other.feed("a")
        self.assertNotEqual(mender, other)
        mender.feed("a")
        self.assertEqual(mender, other)
        other.end()
        self.assertNotEqual(mender, other)

    def test_what_cannot_be_set(self):
        mender = Mender(ANY, THREES, ONE)
        for name in ("came", "waiting", "result", "changes", "paid", "has_ended", "promised", "most"):
            with self.assertRaises(AttributeError):
                setattr(mender, name, 0)
        with self.assertRaises(TypeError):
            iter(mender)

    def test_errors(self):
        three = ((SEVEN, wrong_forms(), InvalidForm), (SEVEN_C, wrong_forms(), InvalidForm), (SLOW, wrong_prices(), InvalidPrices))
        check_order(self, Mender, *three, ahead=(0, wrong_numbers(0, 2), InvalidNumber))
        for source, target in ((ANY, SEVEN_C), (SEVEN_C, ANY), (SEVEN, SEVEN_C), (ANY, PAIRS), (FORK.renamed({"a": "b", "b": "a", "c": "c"}), LATE)):
            with self.assertRaises(InvalidOperation):
                Mender(source, target, SLOW, ahead=2)
        with self.assertRaises(InvalidOperation):
            Mender(FORK, LATE, FIVE, ahead=2)
        for source, target in ((ANY, SEVEN), (SEVEN, PAIRS)):
            with self.assertRaises(TooMany) as caught:
                Mender(source, target, ONE, ahead=0)
            self.assertEqual(caught.exception.limit, 6)


class RereaderTest(unittest.TestCase):
    def tasks(self):
        return [triple for triple in some_triples() if is_bounded(*triple[:2])][::2] + [
            (FORK, LATE, FIVE), (ANY, AHEAD, SLOW), (WIDE, WIDE, ROUGH), (SIX, THREES, ROUGH)]

    def test_by_its_dicts_alone(self):
        for source, target, prices in self.tasks():
            rereader = Rereader(source, target, prices)
            there, ends, back, begins = rereader.there, rereader.ends, rereader.back, rereader.begins
            numbers = {0, *(number for number, _ in there), *there.values()}
            self.assertEqual(sorted(numbers), list(range(len(rereader))))
            self.assertEqual(str(rereader), f"rereader of {len(rereader)} numbers")
            for table in (there, ends, back, begins):
                self.assertEqual(list(table), sorted(table))
            for word in some_words(source):
                way = [0]
                for sign in word:
                    way.append(there[way[-1], sign])
                state, parts, paid = ends[way[-1]], [], 0
                self.assertTrue(target.states[state][1])
                for at in range(len(word) - 1, -1, -1):
                    ahead, part = back[way[at], word[at], state]
                    self.assertEqual(self.behind(target, ahead, part), state)
                    parts.append(part)
                    paid += distance(word[at], part, prices)
                    state = ahead
                self.assertEqual(self.behind(target, 0, begins[state]), state)
                paid += distance("", begins[state], prices)
                result = begins[state] + "".join(reversed(parts))
                self.assertEqual(paid, cost(word, target, prices))
                self.assertIn(result, target)
                self.assertEqual(rereader(word), result)
                self.assertIs(is_mending(word, target, prices, rereader.mending(word)), True)
                self.assertEqual(changed(word, rereader.mending(word)), result)

    def behind(self, form, state, word):
        for sign in word:
            state = form.states[state][0][sign]
        return state

    def test_kinds_of_values(self):
        rereader = Rereader(ANY, THREES, ONE)
        for (number, sign), to in rereader.there.items():
            self.assertEqual((type(number), sign, type(to)), (int, "a", int))
        for (number, sign, state), (ahead, word) in rereader.back.items():
            self.assertEqual((type(number), sign, type(state), type(ahead), type(word)), (int, "a", int, int, str))
        self.assertTrue(all(type(state) is int for state in rereader.ends.values()))
        self.assertTrue(all(type(word) is str for word in rereader.begins.values()))

    def test_words(self):
        rereader = Rereader(ANY, THREES, ONE)
        self.assertEqual(rereader("aaaa"), "aaa")
        self.assertEqual((rereader(""), rereader.mending("")), ("", ()))
        self.assertEqual(len(rereader("a" * 1000)), 999)
        self.assertEqual(price_of("a" * 1000, rereader.mending("a" * 1000), ONE), 1)
        fork = Rereader(FORK, LATE, FIVE)
        for sign, first in (("b", "d"), ("c", "e")):
            self.assertIn(fork("a" * 900 + sign * 100), (first + "a" * many + sign * 100 for many in (899, 900)))
        self.assertEqual(Rereader(EMPTY, LINE, ROUGH)(""), "ab")

    def test_it_never_changes(self):
        rereader = Rereader(ANY, THREES, ONE)
        for name in ("there", "ends", "back", "begins"):
            table = getattr(rereader, name)
            before = dict(table)
            table.clear()
            self.assertEqual(getattr(rereader, name), before)
            with self.assertRaises(AttributeError):
                setattr(rereader, name, {})
        self.assertEqual(rereader("aaaa"), "aaa")
        with self.assertRaises(TypeError):
            iter(rereader)

    def test_equality(self):
        rereader = Rereader(ANY, THREES, ONE)
        self.assertEqual(rereader, Rereader(Form(ANY.states), THREES, ONE))
        for other in (Rereader(ANY, ANY, ONE), Rereader(THREES, THREES, ONE), Rereader(ANY, THREES, SLOW)):
            self.assertIs(rereader == other, False)
            self.assertIs(rereader != other, True)
        for value in odd_values():
            self.assertIs(rereader == value, False)

    def test_errors(self):
        three = ((SEVEN, wrong_forms(), InvalidForm), (SEVEN_C, wrong_forms(), InvalidForm), (SLOW, wrong_prices(), InvalidPrices))
        check_order(self, Rereader, *three)
        for source, target in ((ANY, SEVEN_C), (SEVEN_C, ANY), (ANY, PAIRS), (AHEAD, ANY)):
            with self.assertRaises(InvalidOperation):
                Rereader(source, target, SLOW)
        for source, target in ((ANY, SEVEN), (SEVEN, PAIRS)):
            with self.assertRaises(TooMany) as caught:
                Rereader(source, target, ONE)
            self.assertEqual(caught.exception.limit, 6)
        rereader = Rereader(LINE, THREES, FIVE)
        for call in (rereader, rereader.mending):
            for value in wrong_words():
                with self.assertRaises(InvalidWord):
                    call(value)
            for value in ("", "a", "abca", "d"):
                with self.assertRaises(InvalidOperation):
                    call(value)


class InterfaceTest(unittest.TestCase):
    def test_signatures(self):
        self.assertEqual(str(inspect.signature(Mender)), "(source, target, prices, *, ahead=0)")
        self.assertEqual(str(inspect.signature(Rereader)), "(source, target, prices)")
        wanted = {"feed": "(self, word)", "end": "(self)", "undo": "(self, *, many=1)", "foretell": "(self, word)",
                  "twin": "(self)", "__call__": "(self, word)"}
        for name, told in wanted.items():
            self.assertEqual(str(inspect.signature(getattr(Mender, name))), told)
        for name in (*wanted, "came", "waiting", "result", "changes", "paid", "has_ended", "promised", "most", "__len__", "__eq__", "__str__"):
            self.assertIn(name, vars(Mender))
        for name in ("there", "ends", "back", "begins", "mending", "__call__", "__len__", "__eq__", "__str__"):
            self.assertIn(name, vars(Rereader))
        for one in (Mender, Rereader):
            self.assertEqual(one.__module__, module.__name__)
