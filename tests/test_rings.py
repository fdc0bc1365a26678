import inspect
import itertools
import unittest

from mendnumber.errors import InvalidForm, InvalidNumber, InvalidOperation, InvalidWord, TooMany
from mendnumber.forms.form import Form
from mendnumber.rings import rings as module
from mendnumber.rings.rings import Rings, covers, lacking_piece
from oracles import check_order, wrong_forms, wrong_numbers
from test_rows import SEVEN, SIX
from values import AHEAD, ANY, EIGHTS, FIVES, PAIRS, THREES, odd_values, some_forms

FORTY = EIGHTS & FIVES
LINE = Form.of_words(("abc",))
# Two rings that lead to a third one, with a state between them that is in no ring.
BRANCHES = Form((
    ({"a": 1, "b": 2}, False), ({"a": 1, "b": 3}, False), ({"c": 4, "b": 3}, False), ({"c": 5}, False), ({"c": 2}, False),
    ({"a": 5, "b": 5}, True),
))


def reach(form):
    """The pairs of states from the first of which a word leads to the second one."""
    pairs = {(at, at) for at in range(len(form))}
    pairs |= {(at, to) for at, (moves, _) in enumerate(form.states) for to in moves.values()}
    while True:
        more = pairs | {(one, last) for one, via in pairs for other, last in pairs if via == other}
        if more == pairs:
            return pairs
        pairs = more


def parts_of(form):
    pairs = reach(form)
    return sorted({tuple(to for to in range(len(form)) if (at, to) in pairs and (to, at) in pairs)
                   for at in range(len(form))})


def rings_of(form):
    return [part for part in parts_of(form) if any(to in part for at in part for to in form.states[at][0].values())]


def pieces(form, ring, longest):
    """All pieces of a ring of at most so many signs, in order, with the states that they lead to."""
    found, level = [""], [("", set(ring))]
    for _ in range(longest):
        behind = []
        for word, states in level:
            for sign in "abcde":
                to = {form.states[state][0].get(sign) for state in states} & set(ring)
                if to:
                    behind.append((word + sign, to))
        found.extend(word for word, _ in behind)
        level = behind
    return found


class PartsTest(unittest.TestCase):
    def test_against_all_pairs_of_states(self):
        for form in some_forms() + [BRANCHES, LINE, SEVEN]:
            rings, pairs = Rings(form), reach(form)
            parts = parts_of(form)
            self.assertEqual(rings.form, form)
            self.assertEqual(rings.parts, tuple(parts))
            self.assertEqual(rings.rings, tuple(rings_of(form)))
            self.assertEqual(str(rings), f"{len(rings_of(form))} rings, {len(parts)} parts")
            for state in range(len(form)):
                self.assertEqual([rings.part_of(state)], [part for part in parts if state in part])
            for one, other in itertools.product(parts, repeat=2):
                self.assertIs(rings.leads(one, other), any((at, to) in pairs for at in one for to in other))
            self.assertEqual(rings.longest, self.longest(rings))

    def longest(self, rings, ahead=()):
        """By going through all rows of parts."""
        return max([len(ahead)] + [
            self.longest(rings, (*ahead, part)) for part in rings.parts
            if part not in ahead and (not ahead or rings.leads(ahead[-1], part))
        ])

    def test_known_rings(self):
        self.assertEqual((Rings(LINE).rings, Rings(LINE).parts, Rings(LINE).longest), ((), ((0,), (1,), (2,), (3,)), 4))
        self.assertEqual((Rings(ANY).rings, Rings(PAIRS).rings, Rings(THREES).rings), (((0,),), ((0, 1),), ((0, 1, 2),)))
        self.assertEqual((Rings(AHEAD).rings, Rings(AHEAD).longest), (((0,), (1,)), 2))
        branches = Rings(BRANCHES)
        self.assertEqual((branches.rings, branches.longest), (((1,), (2, 4), (5,)), 4))
        self.assertEqual(branches.parts, ((0,), (1,), (2, 4), (3,), (5,)))
        self.assertEqual([branches.leads((1,), (5,)), branches.leads((1,), (2, 4)), branches.leads((2, 4), (1,)),
                          branches.leads((0,), (0,)), branches.leads((5,), (1,))], [True, False, False, True, False])
        forty = Rings(FORTY)
        self.assertEqual((forty.rings, forty.longest, str(forty)), ((tuple(range(40)),), 1, "1 rings, 1 parts"))
        self.assertEqual(Rings(Form.of_words(("a" * 39,))).longest, 40)

    def test_errors(self):
        for value in wrong_forms():
            with self.assertRaises(InvalidForm):
                Rings(value)
        branches = Rings(BRANCHES)
        for value in wrong_numbers(0, 5):
            with self.assertRaises(InvalidNumber) as caught:
                branches.part_of(value)
            self.assertIs(caught.exception.given, value)
        for value in odd_values() + [(0, 1), (2,), (4, 2), [1], (1.5,), (True,), (False,), 1, (2, 4, 5), ((1,),)]:
            if repr(value) not in ("(1,)", "(5,)", "(0,)"):
                for call in (lambda: branches.leads(value, (1,)), lambda: branches.leads((1,), value),
                             lambda: branches.leads(value, value)):
                    with self.assertRaises(InvalidOperation):
                        call()


class ReadingTest(unittest.TestCase):
    def test_pieces(self):
        for form in some_forms() + [BRANCHES]:
            rings = Rings(form)
            signs = form.signs[:3]
            for ring in rings.rings:
                found = set(pieces(form, ring, 5))
                for length in range(6):
                    for letters in itertools.product(signs, repeat=length):
                        self.assertIs(rings.reads(ring, "".join(letters)), "".join(letters) in found)

    def test_known_pieces(self):
        self.assertIs(Rings(AHEAD).reads((0,), "ab"), False)
        self.assertIs(Rings(AHEAD).reads((0,), ""), True)
        self.assertIs(Rings(PAIRS).reads((0, 1), "bab"), True)
        self.assertIs(Rings(PAIRS).reads((0, 1), "bb"), False)
        self.assertIs(Rings(PAIRS).reads((0, 1), "ab" * 4500), True)
        self.assertIs(Rings(PAIRS).reads((0, 1), "ab" * 4499 + "b"), False)
        self.assertIs(Rings(FORTY).reads(tuple(range(40)), "abcde" * 1800), True)
        self.assertIs(Rings(BRANCHES).reads((2, 4), "ccc"), True)
        self.assertIs(Rings(BRANCHES).reads((2, 4), "cb"), False)

    def test_large_rings_are_read_quickly(self):
        # From all forty states at once, a word can lead to very many sets of states.
        form = FORTY
        for at in range(39):
            form = form.with_move(at, "b", at).with_move(at, "c", 0 if at else 1)
        ring = tuple(range(40))
        self.assertIs(Rings(form).reads(ring, "abcabbabcaab" * 100), True)

    def test_errors(self):
        rings = Rings(BRANCHES)
        for value in odd_values() + [(0,), (3,), (2,), (4, 2), [1], (True,), (1, 5)]:
            if repr(value) not in ("(1,)", "(5,)"):
                with self.assertRaises(InvalidOperation):
                    rings.reads(value, 7)
        for value in odd_values() + ["af", "A"]:
            if type(value) is not str or not set(value) <= set("abcde"):
                with self.assertRaises(InvalidWord):
                    rings.reads((1,), value)


class LoopsTest(unittest.TestCase):
    def test_all_loops(self):
        for form in some_forms() + [BRANCHES]:
            rings = Rings(form)
            longest = 8 if len(form.signs) < 3 else 5
            for state in range(len(form)):
                found, level = [], [("", state)]
                for _ in range(longest):
                    level = [(word + sign, form.states[at][0][sign]) for word, at in level for sign in "abcde"
                             if sign in form.states[at][0]]
                    found.extend(word for word, at in level if at == state)
                self.assertEqual(list(rings.loops(state, longest)), found)
                self.assertEqual(list(rings.loops(state, 0)), [])

    def test_twelve_signs_and_more(self):
        self.assertEqual(list(Rings(PAIRS).loops(0, 4)), ["ab", "abab"])
        self.assertEqual(list(Rings(PAIRS).loops(1, 12)), ["ba" * many for many in range(1, 7)])
        self.assertEqual(list(Rings(FORTY).loops(3, 12)), [])
        words = Rings(EIGHTS).loops(5, 12)
        self.assertTrue(inspect.isgenerator(words))
        self.assertEqual(list(itertools.islice(words, 6)), ["a" * 8, *("a" * 7 + sign for sign in "bcde"), "a" * 6 + "ba"])

    def test_errors(self):
        rings = Rings(BRANCHES)
        check_order(self, lambda *given: next(rings.loops(*given)), (1, wrong_numbers(0, 5), InvalidNumber),
                    (3, wrong_numbers(0, 12), InvalidNumber))
        rings.loops(None, 13)


class ContainerTest(unittest.TestCase):
    def test_rings_one_by_one(self):
        for form in some_forms() + [BRANCHES, LINE]:
            rings = Rings(form)
            self.assertEqual(len(rings), len(rings_of(form)))
            self.assertEqual([rings[at] for at in range(len(rings))], rings_of(form))
            self.assertEqual([ring for ring in rings], rings_of(form))
            self.assertEqual((list(rings), tuple(rings)), (rings_of(form), tuple(rings_of(form))))

    def test_indices(self):
        for rings, many in ((Rings(BRANCHES), 3), (Rings(LINE), 0)):
            for value in wrong_numbers(0, many - 1) + [slice(0, 1)]:
                with self.assertRaises(InvalidNumber) as caught:
                    rings[value]
                self.assertIs(caught.exception.given, value)

    def test_contains(self):
        rings = Rings(BRANCHES)
        for value in odd_values() + [(1,), (2, 4), (5,), (4, 2), (2,), (3,), (True,), [1], 1, None]:
            self.assertIs(value in rings, repr(value) in ("(1,)", "(2, 4)", "(5,)"))
        self.assertIs((0,) in Rings(ANY), True)
        self.assertIs((False,) in Rings(ANY), False)
        self.assertIs((False,) in Rings(ANY).rings, True)

    def test_equality(self):
        self.assertEqual(Rings(ANY), Rings(Form(ANY.states)))
        self.assertNotEqual(Rings(ANY), Rings(THREES))
        doubled = Form((({"a": 1}, True), ({"a": 0}, True)))
        self.assertNotEqual(Rings(doubled), Rings(ANY))
        for value in odd_values() + [((0,),), [(0,)], ANY]:
            self.assertIs(Rings(ANY) == value, False)
            self.assertIs(Rings(ANY) != value, True)

    def test_they_never_change(self):
        rings = Rings(AHEAD)
        for name in ("form", "parts", "rings", "longest"):
            with self.assertRaises(AttributeError):
                setattr(rings, name, ())
        with self.assertRaises(TypeError):
            rings[0] = (1,)


class CoversTest(unittest.TestCase):
    def test_against_all_pieces(self):
        forms = [form for form in some_forms() if len(form) <= 6]
        for target, source in list(zip(forms, forms[5:] + forms[:5])) + list(itertools.product(forms[:8], repeat=2)):
            for over in Rings(target).rings:
                have = set(pieces(target, over, 6))
                for under in Rings(source).rings:
                    lacking = [word for word in pieces(source, under, 6) if word not in have][:1]
                    found = lacking_piece(target, over, source, under)
                    self.assertIs(covers(target, over, source, under), found is None)
                    if lacking or found is None or len(found) <= 6:
                        self.assertEqual([found], lacking or [None])
                    else:
                        self.assertTrue(Rings(source).reads(under, found) and not Rings(target).reads(over, found))

    def test_known_rings(self):
        self.assertEqual(lacking_piece(THREES, (0, 1, 2), ANY, (0,)), None)
        self.assertEqual(lacking_piece(PAIRS, (0, 1), ANY, (0,)), "aa")
        self.assertEqual(lacking_piece(ANY, (0,), PAIRS, (0, 1)), "b")
        self.assertEqual(lacking_piece(AHEAD, (1,), AHEAD, (0,)), "a")
        self.assertIs(covers(AHEAD, (0,), THREES, (0, 1, 2)), True)
        self.assertIs(covers(SIX, tuple(range(6)), ANY, (0,)), True)
        pairs = Form((({"a": 1}, True), ({"a": 2}, False), ({"a": 3}, False), ({"a": 4}, False), ({"b": 0}, False)))
        self.assertEqual(lacking_piece(pairs, (0, 1, 2, 3, 4), ANY, (0,)), "aaaaa")

    def test_errors(self):
        wrong = [value for value in odd_values() if repr(value) != "(0,)"]
        check_order(self, covers, (SEVEN, wrong_forms(), InvalidForm), (tuple(range(7)), odd_values(), InvalidOperation),
                    (ANY, wrong_forms(), InvalidForm), ((0,), wrong, InvalidOperation))
        check_order(self, lacking_piece, (AHEAD, wrong_forms(), InvalidForm), ((1,), odd_values()[:4], InvalidOperation),
                    (SEVEN, wrong_forms(), InvalidForm), (tuple(range(7)), odd_values(), InvalidOperation))
        for use in (covers, lacking_piece):
            for over, under in (((0,), (0,)), ((5,), (2,)), ((5,), (4, 2)), ((2,), (1,)), ((True,), (1,)), ((1,), (True,))):
                with self.assertRaises(InvalidOperation):
                    use(BRANCHES, over, BRANCHES, under)
            for target, over, source, under in ((SEVEN, tuple(range(7)), ANY, (0,)), (ANY, (0,), SEVEN, tuple(range(7))),
                                                (SEVEN, tuple(range(7)), SEVEN, tuple(range(7)))):
                with self.assertRaises(TooMany) as caught:
                    use(target, over, source, under)
                self.assertEqual(caught.exception.limit, 6)
            with self.assertRaises(InvalidOperation):
                use(SEVEN, (0,), ANY, (0,))
            with self.assertRaises(InvalidOperation):
                use(SEVEN, tuple(range(7)), ANY, (1,))

    def test_interface(self):
        wanted = {"part_of": "(self, state)", "leads": "(self, one, other)", "reads": "(self, ring, word)",
                  "loops": "(self, state, many)"}
        for name, told in wanted.items():
            self.assertEqual(str(inspect.signature(getattr(Rings, name))), told)
        for name in (*wanted, "form", "parts", "rings", "longest", "__len__", "__getitem__", "__iter__", "__contains__",
                     "__eq__", "__str__"):
            self.assertIn(name, vars(Rings))
        self.assertEqual(str(inspect.signature(Rings)), "(form)")
        for function in (covers, lacking_piece):
            self.assertEqual(str(inspect.signature(function)), "(target, over, source, under)")
        for one in (Rings, covers, lacking_piece):
            self.assertEqual(one.__module__, module.__name__)
