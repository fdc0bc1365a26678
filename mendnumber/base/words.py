"""Signs, words and their order."""

from mendnumber.base.integers import check_number
from mendnumber.errors import InvalidWord

SIGNS = "abcde"
MAX_WORD = 1000
MAX_LISTED = 8


def is_sign(value):
    """Whether the value is a sign."""
    # `in` alone would take "" and "ab" for signs, too.
    return isinstance(value, str) and len(value) == 1 and value in SIGNS


def is_word(value):
    """Whether the value is a word of any length."""
    return isinstance(value, str) and value.strip(SIGNS) == ""


def check_word(word):
    """Refuse a value that is not a word of at most MAX_WORD signs."""
    if not is_word(word) or len(word) > MAX_WORD:
        raise InvalidWord("not a word, or one with too many signs")


def check_signs(signs):
    """Refuse a value that is not an ascending tuple of at least one sign."""
    if not isinstance(signs, tuple) or not signs:
        raise InvalidWord("not a tuple of at least one sign")
    if not all([is_sign(sign) for sign in signs]):
        raise InvalidWord("not a tuple of signs")
    if signs != tuple(sorted(set(signs))):
        raise InvalidWord("the signs are not ascending")


def ordered(words):
    """The tuple of the words of a tuple, each once, ascending."""
    if not isinstance(words, tuple) or not all([is_word(word) for word in words]):
        raise InvalidWord("not a tuple of words")
    # The second sorting leaves words of one length in the order of the first one.
    return tuple(sorted(sorted(set(words)), key=len))


def words_upto(signs, many):
    """Yield all words of at most so many signs, each of them among `signs`, ascending."""
    check_signs(signs)
    check_number(many, 0, MAX_LISTED)
    for length in range(many + 1):
        yield from _words_of(signs, length)


def _words_of(signs, length):
    """Yield all words of one length, ascending, each made when it is asked for."""
    if length == 0:
        yield ""
    else:
        shorter = length - 1
        for word in _words_of(signs, shorter):
            for sign in signs:
                yield word + sign
