"""Patterns: texts that tell forms."""

from mendnumber.base.words import SIGNS
from mendnumber.errors import ParseError, TooMany
from mendnumber.forms.form import least_form
from mendnumber.forms.nets import determined

MAX_TEXT = 200
MAX_SIGNS = 12
MARKS = "*+?"

# What can stand at a place: an item; an item or ")" for an empty word; all but a mark; all.
ITEM = 0
OPENED = 1
MARKED = 2
FREE = 3

# Between two items that stand one behind the other, "&" is set. It joins ahead of "|".
JOINED_BEFORE = {"&": ("&",), "|": ("&", "|"), ")": ("&", "|")}


def read_pattern(text):
    """The least form with the words of a pattern."""
    _check_pattern(text)
    if len(text) > MAX_TEXT:
        raise TooMany(MAX_TEXT)
    letters = _letters(text)
    if len(letters) > MAX_SIGNS:
        raise TooMany(MAX_SIGNS)
    (can_be_empty, firsts, ends), follows = _places(text)
    net = [_moves(letters, firsts)]
    for place in range(1, len(letters) + 1):
        net.append(_moves(letters, [to for near, to in follows if near == place]))
    return least_form(determined(net, (0,), (0, *ends) if can_be_empty else ends))


def is_pattern(value):
    """Whether the value is a pattern."""
    return isinstance(value, str) and _first_wrong(value) is None


def turned_pattern(text):
    """The pattern in which the items of each alternative stand in reverse order."""
    _check_pattern(text)
    parts = []
    for step in _steps(text):
        if step == "&":
            behind = parts.pop()
            parts[-1] = behind + parts[-1]
        elif step == "|":
            behind = parts.pop()
            parts[-1] = parts[-1] + "|" + behind
        elif step == ")":
            parts[-1] = "(" + parts[-1] + ")"
        elif step in MARKS:
            parts[-1] = parts[-1] + step
        else:
            parts.append(step)
    return parts[0]


def signs_of(text):
    """The ascending tuple of the signs of a pattern."""
    _check_pattern(text)
    return tuple(sorted(set(_letters(text))))


def _letters(text):
    """The signs that stand in a pattern, in order."""
    return [character for character in text if character in SIGNS]


def _check_pattern(text):
    """Refuse a value that is no pattern."""
    if not isinstance(text, str):
        raise ParseError(0)
    wrong = _first_wrong(text)
    if wrong is not None:
        raise ParseError(wrong)


def _first_wrong(text):
    """The index where a text shows that it is no pattern, or None."""
    depth = 0
    state = ITEM
    for at, character in enumerate(text):
        state = _state_behind(state, character, depth)
        if state is None:
            return at
        if character == "(":
            depth += 1
        if character == ")":
            depth -= 1
    return len(text) if depth > 0 or state == ITEM else None


def _state_behind(state, character, depth):
    """What can stand behind a character, so many parentheses deep; None if it cannot stand there itself."""
    if character in SIGNS:
        return FREE
    if character == "(":
        return OPENED
    if character == ")" and depth > 0 and state != ITEM:
        return FREE
    if character == "|" and state in (MARKED, FREE):
        return ITEM
    if character in MARKS and state == FREE:
        return MARKED
    return None


def _tokens(text):
    """The characters of a pattern, with "()" as one of them, and "&" between an item and the next one."""
    tokens = []
    for character in text:
        if character == ")" and tokens[-1] == "(":
            tokens[-1] = "()"
        else:
            if tokens and tokens[-1] not in ("(", "|") and (character == "(" or character in SIGNS):
                tokens.append("&")
            tokens.append(character)
    return tokens


def _steps(text):
    """The steps in which a pattern is put together, however deep it is.

    A sign and "()" are parts; a mark and ")" change the last part; "&" and "|" make one part of the last two.
    """
    steps = []
    waiting = []
    for token in _tokens(text):
        while waiting and waiting[-1] in JOINED_BEFORE.get(token, ()):
            steps.append(waiting.pop())
        if token in ("(", "&", "|"):
            waiting.append(token)
        else:
            steps.append(token)
        if token == ")":
            waiting.pop()
    return steps + waiting[::-1]


def _places(text):
    """How words of a pattern go through the places of its signs, which are numbered from 1.

    A triple: whether it has the empty word, and the first and the last places of its words. And the list of the pairs
    of places that can be one behind the other.
    """
    follows = {}
    parts = []
    many = 0
    for step in _steps(text):
        if step in ("&", "|"):
            behind = parts.pop()
            if step == "&":
                _link(follows, parts[-1], behind)
            parts[-1] = _one_behind_other(parts[-1], behind) if step == "&" else _one_of_both(parts[-1], behind)
        elif step in MARKS:
            can_be_empty, firsts, ends = parts[-1]
            if step != "?":
                _link(follows, parts[-1], parts[-1])
            parts[-1] = (can_be_empty or step != "+", firsts, ends)
        elif step in SIGNS:
            many += 1
            parts.append((False, (many,), (many,)))
        elif step == "()":
            parts.append((True, (), ()))
    return parts[0], list(follows)


def _link(follows, ahead, behind):
    """Note that each first place of the one part can come behind each last place of the other one."""
    for near in ahead[2]:
        for to in behind[1]:
            follows[near, to] = True


def _one_behind_other(ahead, behind):
    """The part that has each word of the one with each word of the other behind it."""
    firsts = ahead[1] + behind[1] if ahead[0] else ahead[1]
    ends = ahead[2] + behind[2] if behind[0] else behind[2]
    return (ahead[0] and behind[0], firsts, ends)


def _one_of_both(one, other):
    """The part that has the words of both."""
    return (one[0] or other[0], one[1] + other[1], one[2] + other[2])


def _moves(letters, places):
    """The moves of a net to these places."""
    return {sign: tuple([to for to in places if letters[to - 1] == sign]) for sign in SIGNS}
