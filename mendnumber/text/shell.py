"""The shell: a desk that is used by texts."""

from mendnumber.base.words import MAX_WORD
from mendnumber.core.costs import cost, mending
from mendnumber.decide.greatest import dearest_word
from mendnumber.desk.boards import is_name
from mendnumber.desk.desk import Desk
from mendnumber.errors import InvalidOperation, NothingToUndo, ParseError, Refused, TooMany, UnknownName
from mendnumber.forms.patterns import is_pattern, read_pattern
from mendnumber.text.scraps import number_in, word_in
from mendnumber.text.texts import read_form, read_prices, write_changes, write_form, write_paper, write_word

# The kinds of what stands behind the words of a command; a form or prices take all that is left of it.
KINDS = {
    "put": ("name", "pattern"), "form": ("name", "form"), "remove": ("name",), "prices": ("prices",),
    "pin within": ("name", "name", "number"), "pin bounded": ("name", "name"), "pin has": ("name", "word"),
    "unpin within": ("name", "name", "number"), "unpin bounded": ("name", "name"), "unpin has": ("name", "word"),
    "undo": ("number",), "redo": ("number",), "number": ("name", "name"), "word": ("name", "name"),
    "paper": ("name", "name"), "cost": ("name", "word"), "mend": ("name", "word"), "show": ("name",), "names": (),
}


class Shell:
    """A desk, and answers to commands about it."""

    def __init__(self, prices):
        self._desk = Desk(prices)
        self._answered = []

    def desk(self):
        """A twin of the desk."""
        return self._desk.twin()

    def __call__(self, command):
        order = _order_in(command)
        if order is None:
            return "what"
        try:
            answer = _answer(self._desk, order[0], order[1])
        except UnknownName as unknown:
            return f"unknown {unknown.wanted}"
        except Refused as refused:
            return f"refused {_pin_text(refused.claim)}"
        except TooMany as many:
            return f"many {many.limit}"
        except NothingToUndo as nothing:
            return f"nothing {nothing.many}"
        except InvalidOperation:
            return "no"
        self._answered.append(command)
        return answer

    def __len__(self):
        return len(self._answered)

    def __str__(self):
        return f"shell of {len(self._answered)} commands"


def _order_in(command):
    """The verb of a command, and a list of what stands behind it; None if it is no command."""
    if not isinstance(command, str):
        return None
    parts = command.split(" ")
    many = 2 if parts[0] in ("pin", "unpin") else 1
    verb = " ".join(parts[:many])
    given = parts[many:]
    if verb in ("undo", "redo") and not given:
        given = ["1"]
    if verb not in KINDS:
        return None
    kinds = KINDS[verb]
    if kinds and kinds[-1] in ("form", "prices"):
        given = given[:len(kinds) - 1] + [" ".join(given[len(kinds) - 1:])]
    if len(given) != len(kinds):
        return None
    values = [_value_in(kind, text) for kind, text in zip(kinds, given)]
    return None if None in values else (verb, values)


def _value_in(kind, text):
    """The value of a kind that has this text, or None."""
    if kind == "name":
        return text if is_name(text) else None
    if kind == "number":
        return number_in(text)
    if kind == "word":
        word = word_in(text)
        return word if word is not None and len(word) <= MAX_WORD else None
    if kind == "pattern":
        return text if is_pattern(text) else None
    try:
        return read_form(text) if kind == "form" else read_prices(text)
    except ParseError:
        return None


def _answer(desk, verb, values):
    """The answer to a command without an error."""
    if verb == "put":
        return _news_text(desk.enter(values[0], read_pattern(values[1])))
    if verb == "form":
        return _news_text(desk.enter(values[0], values[1]))
    if verb == "remove":
        return _news_text(desk.remove(values[0]))
    if verb == "prices":
        return _news_text(desk.reprice(values[0]))
    if verb == "undo":
        return _news_text(desk.undo(many=values[0]))
    if verb == "redo":
        return _news_text(desk.redo(many=values[0]))
    if verb.startswith("pin "):
        return _news_text(desk.pin((verb[len("pin "):], *values)))
    if verb.startswith("unpin "):
        return _news_text(desk.unpin((verb[len("unpin "):], *values)))
    return _told(desk, verb, values)


def _told(desk, verb, values):
    """The answer to a command that changes nothing."""
    if verb == "names":
        return " ".join(list(desk)) or "none"
    if verb == "number":
        return _number_text(desk.greatest(values[0], values[1]))
    if verb == "paper":
        return write_paper(desk.paper(values[0], values[1]))
    form = desk[values[0]]
    if verb == "show":
        return write_form(form)
    if verb == "cost":
        return str(cost(values[1], form, desk.prices))
    if verb == "mend":
        return write_changes(mending(values[1], form, desk.prices))
    # What is left is the word of the greatest cost.
    if desk.greatest(values[0], values[1]) is None:
        raise InvalidOperation("there is no greatest cost")
    return write_word(dearest_word(form, desk[values[1]], desk.prices))


def _news_text(news):
    """The text of news."""
    told = [f"{one} {other} {_number_text(old)} {_number_text(new)}" for one, other, old, new in news]
    return ", ".join(told) or "none"


def _number_text(number):
    """The text of a greatest cost, or of none."""
    return "grows" if number is None else str(number)


def _pin_text(pin):
    """A pin like in a command."""
    if pin[0] == "has":
        return f"has {pin[1]} {write_word(pin[2])}"
    return " ".join([str(part) for part in pin])
