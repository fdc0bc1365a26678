"""Parts of texts: numbers, words, moves and prices, changes, rows."""

from mendnumber.base.words import is_sign, is_word

DIGITS = "0123456789"
MAX_DIGITS = 60


def has_number_form(text):
    """Whether a text is written like a number, of any length."""
    return text != "" and text.strip(DIGITS) == "" and (text == "0" or text[0] != "0")


def number_in(text):
    """The number that has this text, or None."""
    if not has_number_form(text) or len(text) > MAX_DIGITS:
        return None
    return int(text)


def word_in(text):
    """The word that has this text, or None."""
    if text == "-":
        return ""
    return text if text != "" and is_word(text) else None


def entries_in(text, length):
    """The pairs of so many signs and a number of which a text like `ab1 ba2` is made, or None."""
    pairs = []
    for part in text.split(" "):
        number = number_in(part[length:])
        if number is None or not all([is_sign(sign) for sign in part[:length]]):
            return None
        pairs.append((part[:length], number))
    return pairs


def change_in(text):
    """The change that has this text, or None."""
    parts = text.split(" ")
    at = number_in(parts[1]) if len(parts) > 1 else None
    if at is None:
        return None
    if parts[0] == "out" and len(parts) == 2:
        return ("out", at)
    if parts[0] in ("put", "swap") and len(parts) == 3 and is_sign(parts[2]):
        return (parts[0], at, parts[2])
    return None


def row_texts(text):
    """The tuples of the texts of numbers in a text like `0 1, 1 0`, or None if it has another form."""
    rows = [tuple(part.split(" ")) for part in text.split(", ")]
    if not all([has_number_form(number) for row in rows for number in row]):
        return None
    return rows


def is_line_of_rows(text):
    """Whether a text has the form of a line with the rows of a state."""
    state, _, rest = text.partition(": ")
    return has_number_form(state) and row_texts(rest) is not None
