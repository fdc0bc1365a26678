"""Desks, on which forms with names are changed and promises about them are kept."""

from mendnumber.base.integers import LARGEST, check_number
from mendnumber.base.prices import check_prices, have_signs
from mendnumber.base.words import check_word
from mendnumber.core.readers import Reader
from mendnumber.core.tasks import check_treated
from mendnumber.decide.greatest import mend_paper
from mendnumber.desk.boards import Board, is_name
from mendnumber.errors import InvalidOperation, InvalidWord, NothingToUndo, Refused, TooMany, UnknownName
from mendnumber.forms.form import check_form

MAX_FORMS = 4
MAX_PINS = 8
# How many arguments a change has.
CHANGES = {"enter": 2, "remove": 1, "reprice": 1, "pin": 1, "unpin": 1}


class Desk:
    """Prices, forms with names and pins, with a history of changes."""

    def __init__(self, prices):
        check_prices(prices)
        self._now = Board(prices, {}, (), {})
        self._past = []
        self._undone = []

    @property
    def prices(self):
        """The prices."""
        return self._now.tariff

    @prices.setter
    def prices(self, value):
        self.reprice(value)

    @property
    def forms(self):
        """A dict from the names to their forms."""
        return dict(self._now.named)

    @property
    def pins(self):
        """The pins, in the order in which they were pinned."""
        return self._now.pinned

    def enter(self, name, form):
        """Add or replace a form; the news."""
        if not is_name(name):
            raise InvalidWord("not a name")
        check_form(form)
        return self._set_forms(self._now.tariff, {**self._now.named, name: form})

    def remove(self, name):
        """Take away a form; the news."""
        self._check_name(name)
        named = self._now.named
        return self._set_forms(self._now.tariff, {other: named[other] for other in named if other != name})

    def reprice(self, prices):
        """Set other prices; the news."""
        check_prices(prices)
        return self._set_forms(prices, self._now.named)

    def pin(self, pin):
        """Add a pin; no news."""
        if not self._now.is_pin(pin) or pin in self._now.pinned:
            raise InvalidOperation("not a pin about names that are there, or there already")
        if len(self._now.pinned) == MAX_PINS:
            raise TooMany(MAX_PINS)
        return self._go_on(self._now.with_pins(self._now.pinned + (pin,)))

    def unpin(self, pin):
        """Take away a pin; no news."""
        if not self._now.is_pin(pin) or pin not in self._now.pinned:
            raise InvalidOperation("not a pin that is there")
        return self._go_on(self._now.with_pins(tuple([other for other in self._now.pinned if other != pin])))

    def trial(self, *changes):
        """The news that changes one behind the other would return, without effect."""
        if not all([_is_call(change) for change in changes]):
            raise InvalidOperation("not changes of a desk")
        other = self.twin()
        return tuple([_made(other, change) for change in changes])

    def undo(self, *, many=1):
        """Take back the last changes; the news."""
        return self._step(many, self._past, self._undone)

    def redo(self, *, many=1):
        """Make the changes again that were taken back last; the news."""
        return self._step(many, self._undone, self._past)

    def greatest(self, one, other):
        """The number of two names."""
        self._check_two(one, other)
        return self._now.numbers[one, other]

    def paper(self, one, other):
        """A paper that shows the number of two names."""
        self._check_two(one, other)
        return mend_paper(self._now.named[one], self._now.named[other], self._now.tariff)

    def costs(self, word):
        """A dict from all names to what a word costs."""
        check_word(word)
        if not have_signs(self._now.tariff, word):
            raise InvalidOperation("a sign has no price")
        named = self._now.named
        return {name: Reader(named[name], self._now.tariff).word_cost(word) for name in named}

    def between(self, one, other):
        """The third names over which two numbers together are the number of two names."""
        self._check_two(one, other)
        numbers = self._now.numbers
        found = []
        for name in self._now.named:
            if name not in (one, other):
                parts = (numbers[one, name], numbers[name, other])
                if None not in parts and sum(parts) == numbers[one, other]:
                    found.append(name)
        return tuple(found)

    def twin(self):
        """An equal desk with an equal history that goes on by itself."""
        other = Desk(self._now.tariff)
        other._now = self._now
        other._past = list(self._past)
        other._undone = list(self._undone)
        return other

    def __getitem__(self, name):
        self._check_name(name)
        return self._now.named[name]

    def __iter__(self):
        return iter(self._now.named)

    def __contains__(self, value):
        return self._now.has_name(value)

    def __len__(self):
        return len(self._now.named)

    def __eq__(self, other):
        return (
            isinstance(other, Desk)
            and self._now.tariff == other._now.tariff
            and self._now.named == other._now.named
            and self._now.pinned == other._now.pinned
        )

    def __str__(self):
        return f"desk of {len(self._now.named)} forms, {len(self._now.pinned)} pins"

    def _set_forms(self, prices, named):
        """Set other prices and forms, if they can be treated together; the news."""
        if named:
            check_treated(list(named.values()), prices, "")
        if not self._now.has_pins_about(named):
            raise InvalidOperation("a pin names what is not there")
        if len(named) > MAX_FORMS:
            raise TooMany(MAX_FORMS)
        return self._go_on(self._now.with_forms(prices, named))

    def _go_on(self, board):
        """Set another board, if all its pins hold; the news."""
        for pin in board.pinned:
            if not board.holds(pin):
                raise Refused(pin)
        news = board.news_since(self._now)
        self._past.append(self._now)
        self._undone.clear()
        self._now = board
        return news

    def _step(self, many, boards, others):
        """Set the board that is so many steps away, the nearest one standing last; the news."""
        check_number(many, 0, LARGEST)
        if many > len(boards):
            raise NothingToUndo(many)
        before = self._now
        for _ in range(many):
            others.append(self._now)
            self._now = boards.pop()
        return self._now.news_since(before)

    def _check_name(self, name):
        """Refuse what is not the name of a form."""
        if not self._now.has_name(name):
            raise UnknownName(name)

    def _check_two(self, one, other):
        """Refuse what are not the names of two forms."""
        self._check_name(one)
        self._check_name(other)
        if one == other:
            raise InvalidOperation("the names are equal")


def _is_call(value):
    """Whether the value is a tuple of the name of a change and as many arguments as it has."""
    if not isinstance(value, tuple) or not value or not isinstance(value[0], str):
        return False
    return value[0] in CHANGES and len(value) == 1 + CHANGES[value[0]]


def _made(desk, change):
    """Make a change; the news."""
    if change[0] == "enter":
        return desk.enter(change[1], change[2])
    if change[0] == "remove":
        return desk.remove(change[1])
    if change[0] == "reprice":
        return desk.reprice(change[1])
    if change[0] == "pin":
        return desk.pin(change[1])
    return desk.unpin(change[1])
