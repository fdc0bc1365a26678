import copy
import inspect
import itertools
import unittest

from mendnumber.decide.greatest import greatest_cost, is_close
from mendnumber.errors import InvalidForm, InvalidNumber, InvalidOperation, InvalidPrices, TooMany
from mendnumber.forms.form import Form, is_least
from mendnumber.forms.patterns import read_pattern
from mendnumber.rings.chains import is_bounded
from mendnumber.use import parts as module
from mendnumber.use.parts import (
    best_target, cheapest_guard, close_classes, guard_paper, is_guard_paper, spare_moves, spare_swaps, without_moves,
)
from oracles import check_order, cost_to, wrong_forms, wrong_numbers, wrong_prices
from pairs import (
    AHEAD, ANY, EMPTY, FIVE, FORK, LATE, LINE, ONE, PAIRS, ROUGH, ROWS, SIX, SLOW, THREES, some_pairs, some_triples,
)
from papers import is_family, is_int
from test_rows import SEVEN, SEVEN_C
from values import FIVES, EIGHTS, near, odd_values, some_forms, words_of

FORTY = EIGHTS & FIVES
# Guards of forms with at most six moves, of which some are enough and some are not.
TASKS = [
    (AHEAD, PAIRS, ONE, {(0, "a"): 2, (1, "b"): 3}), (AHEAD, PAIRS, ONE, {(1, "b"): 3}), (AHEAD, ANY, SLOW, {(0, "a"): 0, (0, "b"): 0}),
    (ROWS, FORK, FIVE, {(0, "a"): 1, (1, "b"): 1, (3, "b"): 1, (0, "b"): 5}), (ANY, THREES, ONE, {}), (ANY, PAIRS, ONE, {}),
    (LINE, THREES, ROUGH, {(0, "a"): 10 ** 59, (1, "b"): 10 ** 60 - 1, (2, "c"): 0}), (PAIRS, ANY, ONE, {(0, "a"): 0, (1, "b"): 0}),
    (ROWS, ANY, ROUGH, {(0, "a"): 2, (0, "b"): 2, (1, "b"): 1, (1, "c"): 3, (2, "a"): 1, (3, "c"): 4}),
    (FORK, LATE, FIVE, {(0, "b"): 1, (0, "c"): 1, (1, "b"): 2}), (FORK, PAIRS, FIVE, {(0, "a"): 1, (1, "b"): 1, (2, "c"): 1}),
]


def moves_of(form):
    return [(state, sign) for state, (moves, _) in enumerate(form.states) for sign in moves]


def is_move_like(form, value):
    return type(value) is tuple and len(value) == 2 and type(value[0]) is int and type(value[1]) is str and value in moves_of(form)


def words_without(form, moves, longest):
    """The words of a form that use none of these moves."""
    found = []
    for word in words_of(form.states, longest):
        states = form.walk(word)
        if not any((state, sign) in moves for state, sign in zip(states, word)):
            found.append(word)
    return found


def ranked(tolls):
    guards = [guard for many in range(len(tolls) + 1) for guard in itertools.combinations(sorted(tolls), many)]
    return sorted(guards, key=lambda guard: (sum(tolls[move] for move in guard), len(guard), guard))


def is_enough(source, target, prices, guard, most):
    left = without_moves(source, guard)
    if left is None:
        return True
    greatest = greatest_cost(left, target, prices)
    return greatest is not None and (most is None or greatest <= most)


def is_paper(source, target, prices, tolls, value, most):
    """Whether a value is a pair of the first guard that is enough and of reasons, by trying all guards."""
    if type(value) is not tuple or len(value) != 2 or type(value[1]) is not dict:
        return False
    ahead, found = [], None
    for guard in ranked(tolls):
        if is_enough(source, target, prices, guard, most):
            found = guard
            break
        ahead.append(guard)
    if repr(value[0]) != repr(found) or sorted(map(repr, value[1])) != sorted(map(repr, ahead)):
        return False
    for guard, reason in value[1].items():
        left = without_moves(source, guard)
        if most is None:
            if not is_family(left, target, reason):
                return False
        elif type(reason) is not str or reason not in left or cost_to(reason, target, prices) <= most:
            return False
    return True


class WithoutMovesTest(unittest.TestCase):
    def test_word_by_word(self):
        for form in some_forms() + [ROWS, FORTY]:
            longest = {0: 5, 1: 9, 2: 7}.get(len(form.signs), 4)
            moves = moves_of(form)
            for left in [(), tuple(moves), tuple(moves[::2]), tuple(moves[1::3]), *[(move,) for move in moves[:6]]]:
                found = without_moves(form, left)
                wanted = words_without(form, left, longest)
                if found is None:
                    self.assertEqual(wanted, [])
                else:
                    self.assertIs(is_least(found), True)
                    self.assertEqual(words_of(found.states, longest), wanted)

    def test_known_forms(self):
        self.assertEqual(without_moves(AHEAD, ((0, "b"),)), ANY)
        self.assertEqual(without_moves(PAIRS, ()), PAIRS)
        self.assertEqual(without_moves(PAIRS, ((0, "a"), (1, "b"))), EMPTY)
        self.assertIs(without_moves(Form.of_words(("ab",)), ((1, "b"),)), None)
        self.assertEqual(without_moves(Form((({"a": 1}, True), ({"a": 0}, True))), ()), ANY)

    def test_errors(self):
        wrong = [value for value in odd_values() if value != ()] + [
            ((0, "b"), (0, "a")), ((0, "a"), (0, "a")), ((0, "c"),), ((2, "a"),), ((-1, "a"),), ((False, "a"),), ((True, "b"),),
            [(0, "a")], (["0", "a"],), ((0, "a", 1),), (0, "a"), ((0, "ab"),), ((0, ""),), ((0, ["a"]),), ((0, "a"), (1, "a")),
        ]
        check_order(self, without_moves, (AHEAD, wrong_forms(), InvalidForm), (((0, "a"),), wrong, InvalidOperation))
        self.assertEqual(without_moves(AHEAD, ((0, "a"), (0, "b"), (1, "b"))), EMPTY)


class SpareTest(unittest.TestCase):
    def test_moves_against_all(self):
        counts = {True: 0, False: 0}
        for source, target, prices in some_triples(4):
            greatest = greatest_cost(source, target, prices)
            wanted = []
            for move in moves_of(target):
                left = without_moves(target, (move,))
                if left is not None and greatest_cost(source, left, prices) == greatest:
                    wanted.append(move)
                counts[bool(wanted and wanted[-1] == move)] += 1
            self.assertEqual(spare_moves(source, target, prices), tuple(wanted))
        self.assertGreater(min(counts.values()), 20)

    def test_swaps_against_all(self):
        counts = {True: 0, False: 0}
        for source, target, prices in some_triples(4) + [
                (LINE, read_pattern("cb?|d"), ROUGH), (read_pattern("b"), read_pattern("a"), ONE),
                (read_pattern("ab*"), read_pattern("cb*"), FIVE), (read_pattern("aab"), read_pattern("bba"), ROUGH)]:
            greatest = greatest_cost(source, target, prices)
            wanted = [pair for pair in prices.swap
                      if greatest_cost(source, target, prices.with_price(("swap", *pair), None)) == greatest]
            self.assertEqual(spare_swaps(source, target, prices), tuple(wanted))
            counts[True] += len(wanted)
            counts[False] += len(prices.swap) - len(wanted)
        self.assertGreater(min(counts.values()), 1)

    def test_known_parts(self):
        self.assertEqual(spare_moves(ANY, ANY | PAIRS, ONE), ((1, "b"), (3, "a"), (4, "b")))
        self.assertEqual(spare_swaps(read_pattern("b"), read_pattern("a"), ONE), (("a", "b"),))
        self.assertEqual(spare_moves(ANY, ANY, ONE), ())
        self.assertEqual(spare_moves(EMPTY, LINE, FIVE), ((2, "c"),))
        # Without a greatest cost all moves are spare without which there is none, too.
        self.assertEqual(spare_moves(ANY, PAIRS, ONE), ((0, "a"), (1, "b")))
        self.assertEqual(spare_swaps(ANY, PAIRS, ONE), (("a", "b"), ("b", "a")))
        self.assertEqual(spare_moves(ANY, EMPTY, ONE), ())


class GuardTest(unittest.TestCase):
    def test_against_all_guards(self):
        found = []
        for source, target, prices, tolls in TASKS:
            for most in (None, 0, 1, 2, 3, 10, 60):
                wanted = [guard for guard in ranked(tolls) if is_enough(source, target, prices, guard, most)][:1]
                guard = cheapest_guard(source, target, prices, tolls, most)
                self.assertEqual([guard], wanted or [None])
                paper = guard_paper(source, target, prices, tolls, most)
                self.assertEqual(paper[0], guard)
                self.assertTrue(is_paper(source, target, prices, tolls, paper, most))
                self.assertIs(is_guard_paper(source, target, prices, tolls, paper, most), True)
                self.assertEqual(list(paper[1]), sorted(paper[1]))
                self.assertEqual(guard_paper(source, target, prices, tolls, most), paper)
                found.append(guard)
            self.assertEqual(cheapest_guard(source, target, prices, tolls), cheapest_guard(source, target, prices, tolls, None))
            self.assertEqual(guard_paper(source, target, prices, tolls), guard_paper(source, target, prices, tolls, most=None))
        self.assertTrue(None in found and () in found and any(found))

    def test_known_guards(self):
        self.assertEqual(cheapest_guard(AHEAD, PAIRS, ONE, {(0, "a"): 2, (1, "b"): 3}), ((0, "a"), (1, "b")))
        self.assertIs(cheapest_guard(AHEAD, PAIRS, ONE, {(1, "b"): 3}), None)
        # The sum of tolls goes first, then the length, then Python's order.
        forks = {(0, "a"): 1, (0, "b"): 1, (0, "c"): 2}
        self.assertEqual(cheapest_guard(FORK, read_pattern("a*b*"), FIVE, forks), ((0, "c"),))
        self.assertEqual(cheapest_guard(FORK, read_pattern("a*"), FIVE, {(0, "b"): 0, (0, "c"): 0, (1, "b"): 0}),
                         ((0, "b"), (0, "c")))
        self.assertEqual(cheapest_guard(FORK, read_pattern("a*b*"), FIVE, {(0, "c"): 3, (2, "c"): 3}), ((0, "c"),))
        self.assertEqual(cheapest_guard(FORK, read_pattern("a*b*"), FIVE, {(0, "c"): 3, (2, "c"): 2}), ((2, "c"),))
        # Without the moves no word is left.
        self.assertEqual(cheapest_guard(Form.of_words(("aa",)), EMPTY, ONE, {(0, "a"): 4, (1, "a"): 4}, 1), ((0, "a"),))
        self.assertEqual(cheapest_guard(Form.of_words(("aa",)), EMPTY, ONE, {(0, "a"): 4, (1, "a"): 4}, 2), ())

    def test_no_move_six_and_seven(self):
        wide = Form((({"a": 0, "b": 0, "c": 0}, True),)) + Form((({"a": 0, "b": 0, "c": 1}, False), ({"d": 1, "e": 1}, True)))
        moves = moves_of(wide)
        self.assertGreater(len(moves), 6)
        self.assertIs(cheapest_guard(wide, EMPTY, FIVE, {}), None)
        six = {move: 1 for move in moves[:6]}
        paper = guard_paper(wide, EMPTY, FIVE, six, 9)
        self.assertTrue(is_paper(wide, EMPTY, FIVE, six, paper, 9))
        seven = {move: 1 for move in moves[:7]}
        for use in (cheapest_guard, guard_paper, lambda *given: is_guard_paper(*given[:4], None, *given[4:])):
            with self.assertRaises(TooMany) as caught:
                use(wide, EMPTY, FIVE, seven, 9)
            self.assertEqual(caught.exception.limit, 6)
            with self.assertRaises(InvalidNumber):
                use(wide, EMPTY, FIVE, seven, 61)
            with self.assertRaises(InvalidOperation):
                use(wide, EMPTY, FIVE, {**seven, (9, "a"): 1}, 61)
            with self.assertRaises(InvalidOperation):
                use(wide, EMPTY, ONE, seven, 9)

    def test_values_near_a_paper(self):
        for (source, target, prices, tolls), most in (
            (TASKS[0], None), (TASKS[0], 3), (TASKS[1], None), (TASKS[2], 0), (TASKS[4], 1), (TASKS[4], 0), (TASKS[6], 4), (TASKS[10], 2),
        ):
            paper = guard_paper(source, target, prices, tolls, most)
            before = copy.deepcopy((paper, tolls))
            for value in near(paper) + odd_values() + [(paper[0], {}), (None, paper[1])]:
                told = is_paper(source, target, prices, tolls, value, most)
                self.assertIs(is_guard_paper(source, target, prices, tolls, value, most), told, value)
            self.assertEqual((paper, tolls), before)

    def test_reasons_that_the_program_did_not_make(self):
        tolls = {(0, "a"): 2, (1, "b"): 3}
        guard, reasons = guard_paper(AHEAD, PAIRS, ONE, tolls, 3)
        self.assertIs(is_guard_paper(AHEAD, PAIRS, ONE, tolls, (guard, {**reasons, (): "a" * 5000}), 3), True)
        self.assertIs(is_guard_paper(AHEAD, PAIRS, ONE, tolls, (guard, {**reasons, (): "a" * 5}), 3), False)
        self.assertIs(is_guard_paper(AHEAD, PAIRS, ONE, tolls, (guard, {**reasons, (): "ba" * 20}), 3), False)
        # A guard that is not enough cannot be told, with the reasons for those of lower rank.
        guards = ranked(tolls)
        for at, other in enumerate(guards[:-1]):
            value = (other, {ahead: reasons[ahead] for ahead in guards[:at]})
            self.assertIs(is_guard_paper(AHEAD, PAIRS, ONE, tolls, value, 3), False)
        self.assertIs(is_guard_paper(AHEAD, PAIRS, ONE, tolls, (((False, "a"), (1, "b")), reasons), 3), False)
        for most, reason in ((None, ("", "aa", "")), (1, "aa")):
            # A guard without which no word is left is enough, whatever is told.
            source, toll = (ANY.with_last(0, True) & Form.of_words(("aa",)), {(0, "a"): 1}) if most else (Form((
                ({"a": 1}, False), ({"b": 1}, True))), {(0, "a"): 1})
            reason = reason if most else ("a", "b", "")
            paper = guard_paper(source, EMPTY, ONE, toll, most)
            self.assertEqual(paper[0], ((0, "a"),))
            self.assertIs(is_guard_paper(source, EMPTY, ONE, toll, paper, most), True)
            self.assertIs(is_guard_paper(source, EMPTY, ONE, toll, (None, {**paper[1], ((0, "a"),): reason}), most), False)
        self.assertTrue(all(len(word) <= 4000 for word in guard_paper(AHEAD, SIX, ONE, tolls, 60)[1].values()))

    def test_errors(self):
        three = ((SEVEN, wrong_forms(), InvalidForm), (SEVEN_C, wrong_forms(), InvalidForm), (SLOW, wrong_prices(), InvalidPrices))
        tolls = [value for value in odd_values() if value != {}] + [
            {(0, "b"): 1}, {(7, "a"): 1}, {(False, "a"): 1}, {(0, "a"): -1}, {(0, "a"): True}, {(0, "a"): None}, {(0, "a"): 10 ** 60},
            {(0, "a"): "1"}, {"a": 1}, {0: 1}, {((0, "a"),): 1}, [((0, "a"), 1)],
        ]
        mosts = [value for value in wrong_numbers(0, 60) if value is not None]
        for use in (cheapest_guard, guard_paper, lambda *given: is_guard_paper(*given[:4], None, *given[4:])):
            check_order(self, use, *three, ({(0, "a"): 1}, tolls, InvalidOperation), (3, mosts, InvalidNumber))
            for source, target in ((ANY, SEVEN_C), (SEVEN_C, ANY)):
                with self.assertRaises(InvalidOperation):
                    use(source, target, SLOW, {}, None)
            for source, target in ((ANY, SEVEN), (SEVEN, ANY)):
                with self.assertRaises(TooMany) as caught:
                    use(source, target, ONE, {}, 0)
                self.assertEqual(caught.exception.limit, 6)
        for use in (spare_moves, spare_swaps):
            check_order(self, use, *three)
            with self.assertRaises(InvalidOperation):
                use(ANY, SEVEN_C, SLOW)
            with self.assertRaises(TooMany):
                use(ANY, SEVEN, SLOW)


class ClassesTest(unittest.TestCase):
    def test_classes(self):
        forms = [pair[0] for pair in some_pairs()[::11]]
        for at in range(0, len(forms) - 8, 4):
            for many in (1, 3, 8):
                group = tuple(forms[at:at + many])
                wanted = sorted({tuple(index for index, other in enumerate(group) if is_close(form, other)) for form in group})
                self.assertEqual(close_classes(group), tuple(wanted))
        self.assertEqual(close_classes((ANY, PAIRS, THREES)), ((0, 2), (1,)))
        self.assertEqual(close_classes((ANY,)), ((0,),))
        self.assertEqual(close_classes((ANY,) * 8), (tuple(range(8)),))
        self.assertEqual(close_classes((PAIRS, ANY, LINE, EMPTY, THREES)), ((0,), (1, 4), (2, 3)))

    def test_best_targets(self):
        forms = [pair[0] for pair in some_pairs()[::11]]
        found = []
        for at in range(len(forms) - 8):
            source, targets = forms[at], tuple(forms[at + 1:at + 4])
            costs = [greatest_cost(source, target, ROUGH) for target in targets]
            numbers = [number for number in costs if number is not None]
            wanted = costs.index(min(numbers)) if numbers else None
            found.append(wanted)
            self.assertEqual(best_target(source, targets, ROUGH), wanted)
        self.assertIn(None, found)
        self.assertEqual(best_target(THREES, (PAIRS, THREES, ANY), ONE), 1)
        self.assertEqual(best_target(ANY, (PAIRS, EMPTY), ONE), None)
        self.assertEqual(best_target(LINE, (EMPTY,), FIVE), 0)

    def test_errors(self):
        wrong = odd_values() + [(ANY,) * 9, [ANY], (ANY, None), {0: ANY}, (ANY, "a")]
        wrong = [value for value in wrong if not (type(value) is tuple and 1 <= len(value) <= 8 and all(isinstance(one, Form) for one in value))]
        check_order(self, close_classes, ((SEVEN,), wrong, InvalidForm))
        check_order(self, best_target, (SEVEN, wrong_forms(), InvalidForm), ((SEVEN_C,), wrong, InvalidForm), (SLOW, wrong_prices(), InvalidPrices))
        with self.assertRaises(TooMany) as caught:
            close_classes((ANY, SEVEN))
        self.assertEqual(caught.exception.limit, 6)
        for source, targets in ((ANY, (ANY, SEVEN)), (SEVEN, (ANY,))):
            with self.assertRaises(TooMany) as caught:
                best_target(source, targets, ONE)
            self.assertEqual(caught.exception.limit, 6)
            with self.assertRaises(InvalidOperation):
                best_target(source, (*targets, SEVEN_C), ONE)

    def test_interface(self):
        wanted = {
            without_moves: "(form, moves)", spare_moves: "(source, target, prices)", spare_swaps: "(source, target, prices)",
            cheapest_guard: "(source, target, prices, tolls, most=None)", guard_paper: "(source, target, prices, tolls, most=None)",
            is_guard_paper: "(source, target, prices, tolls, value, most=None)", close_classes: "(forms)",
            best_target: "(source, targets, prices)",
        }
        for function, told in wanted.items():
            self.assertEqual(str(inspect.signature(function)), told)
            self.assertEqual(function.__module__, module.__name__)
        self.assertIs(is_bounded(ANY, ANY), True)
