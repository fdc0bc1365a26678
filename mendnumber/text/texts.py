"""Texts of words, forms, prices, rows of changes and papers."""

from mendnumber.base.integers import is_number
from mendnumber.base.prices import Prices, check_prices
from mendnumber.base.words import is_sign, is_word
from mendnumber.errors import InvalidChange, InvalidOperation, InvalidPrices, InvalidWord, ParseError
from mendnumber.forms.form import check_form, form_of_machine
from mendnumber.rings.families import is_family
from mendnumber.text.scraps import (
    change_in, entries_in, has_number_form, is_line_of_rows, number_in, row_texts, word_in,
)


def write_word(word):
    """The text of a word."""
    if not is_word(word):
        raise InvalidWord("not a word")
    return word or "-"


def write_form(form):
    """The text of a form."""
    check_form(form)
    return "; ".join([_state_text(moves, last) for moves, last in form.states])


def write_prices(prices):
    """The text of prices."""
    check_prices(prices)
    swap = prices.swap
    told = {one + other: swap[one, other] for one, other in swap}
    swaps = _entries_text(told) if told else "-"
    return f"put {_entries_text(prices.put)}; out {_entries_text(prices.out)}; swap {swaps}"


def write_changes(changes):
    """The text of a row of changes."""
    if not isinstance(changes, tuple) or not all([_has_change_form(change) for change in changes]):
        raise InvalidChange("not a tuple of changes")
    return ", ".join([" ".join([str(part) for part in change]) for change in changes]) or "-"


def write_paper(paper):
    """The text of a paper about the greatest cost."""
    if not _has_paper_form(paper):
        raise InvalidOperation("this has not the form of a paper")
    if paper[0] == "grows":
        return "\n".join(["grows"] + [write_word(word) for word in paper[1]])
    _, most, word, table = paper
    lines = [_rows_text(state, table[state]) for state in sorted(table)]
    return "\n".join([f"bounded {most}", write_word(word)] + lines)


def read_word(text):
    """The word that has this text."""
    _check_text(text)
    word = word_in(text)
    if word is None:
        raise ParseError(None)
    return word


def read_form(text):
    """The form that has this text."""
    _check_text(text)
    machine = tuple([_state_in(part) for part in text.split("; ")])
    form = form_of_machine(machine) if None not in machine else None
    if form is None or write_form(form) != text:
        raise ParseError(None)
    return form


def read_prices(text):
    """The prices that have this text."""
    _check_text(text)
    tables = _price_tables(text.split("; "))
    if tables is None:
        raise ParseError(None)
    put, out, swap = tables
    try:
        prices = Prices(put=put, out=out, swap=swap)
    except InvalidPrices:
        raise ParseError(None) from None
    if write_prices(prices) != text:
        raise ParseError(None)
    return prices


def read_changes(text):
    """The row of changes that has this text."""
    _check_text(text)
    changes = tuple([change_in(part) for part in text.split(", ")]) if text != "-" else ()
    if None in changes:
        raise ParseError(None)
    return changes


def read_paper(text):
    """The paper that has this text."""
    _check_text(text)
    lines = text.split("\n")
    for at, line in enumerate(lines):
        if not _has_line_form(lines[0], at, line):
            raise ParseError(at)
    paper = ("grows", tuple([word_in(line) for line in lines[1:]])) if lines[0] == "grows" else _bounded_in(lines)
    if not _has_paper_form(paper):
        raise ParseError(None)
    return paper


def _check_text(text):
    """Refuse a value that is no string."""
    if not isinstance(text, str):
        raise ParseError(None)


def _state_text(moves, last):
    """The text of a state."""
    parts = [f"{sign}{moves[sign]}" for sign in moves]
    return " ".join(parts + ["*"] if last else parts)


def _state_in(text):
    """The moves of a state that has this text, and whether it is last; None if there is no such state."""
    if text == "*":
        return ({}, True)
    last = text.endswith(" *")
    pairs = entries_in(text[:-2] if last else text, 1)
    return None if pairs is None else ({sign: to for sign, to in pairs}, last)


def _entries_text(table):
    """The text of the entries of a dict to numbers."""
    return " ".join([f"{key}{table[key]}" for key in table])


def _price_tables(parts):
    """The dicts of put, out and swap prices that have these texts, or None."""
    if len(parts) != 3 or not parts[0].startswith("put ") or not parts[1].startswith("out "):
        return None
    if not parts[2].startswith("swap "):
        return None
    put = entries_in(parts[0][4:], 1)
    out = entries_in(parts[1][4:], 1)
    swap = [] if parts[2] == "swap -" else entries_in(parts[2][5:], 2)
    if put is None or out is None or swap is None:
        return None
    swaps = {(pair[0], pair[1]): price for pair, price in swap}
    return ({sign: price for sign, price in put}, {sign: price for sign, price in out}, swaps)


def _has_change_form(value):
    """Whether the value has the form of a change with an index of at least 0."""
    if not isinstance(value, tuple) or len(value) not in (2, 3) or not is_number(value[1]) or value[1] < 0:
        return False
    if value[0] == "out":
        return len(value) == 2
    return value[0] in ("put", "swap") and len(value) == 3 and is_sign(value[2])


def _has_paper_form(value):
    """Whether the value has the form of a paper about the greatest cost."""
    if not isinstance(value, tuple) or not value:
        return False
    if value[0] == "grows":
        return len(value) == 2 and is_family(value[1])
    if value[0] != "bounded" or len(value) != 4:
        return False
    return is_number(value[1]) and value[1] >= 0 and is_word(value[2]) and _has_table_form(value[3])


def _has_table_form(value):
    """Whether the value is a dict from states 0, 1, .. to tuples of rows, all of one length."""
    if not isinstance(value, dict) or not value or not all([is_number(state) for state in value]):
        return False
    if sorted(value) != list(range(len(value))):
        return False
    if not all([isinstance(rows, tuple) and len(rows) > 0 for rows in value.values()]):
        return False
    rows = [row for state in value for row in value[state]]
    if not all([isinstance(row, tuple) and len(row) > 0 for row in rows]):
        return False
    if len(set([len(row) for row in rows])) > 1:
        return False
    return all([is_number(number) and number >= 0 for row in rows for number in row])


def _rows_text(state, rows):
    """The text of a state and its rows."""
    told = ", ".join([" ".join([str(number) for number in row]) for row in rows])
    return f"{state}: {told}"


def _has_line_form(first, at, line):
    """Whether a line has a form that it can have at this index behind this first line."""
    if at == 0:
        return line == "grows" or line.startswith("bounded ") and has_number_form(line[len("bounded "):])
    if at == 1 or first == "grows":
        return word_in(line) is not None
    return is_line_of_rows(line)


def _bounded_in(lines):
    """The value that has these lines, the first of which tells a number; it need not have the form of a paper."""
    if len(lines) < 3:
        return None
    table = {}
    for at, line in enumerate(lines[2:]):
        state, _, rest = line.partition(": ")
        if number_in(state) != at:
            return None
        table[at] = tuple([tuple([number_in(number) for number in row]) for row in row_texts(rest)])
    return ("bounded", number_in(lines[0][len("bounded "):]), word_in(lines[1]), table)
