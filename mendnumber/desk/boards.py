"""What stands on a desk at one time."""

from mendnumber.base.integers import is_number_within
from mendnumber.base.orders import ascending_dict
from mendnumber.base.words import is_word
from mendnumber.decide.greatest import height_of

MAX_NAME = 8
MAX_PINNED = 500
LETTERS = "abcdefghijklmnopqrstuvwxyz"


class Board:
    """Prices, forms by names, pins, and the numbers of all pairs of names; it never changes."""

    def __init__(self, tariff, named, pinned, numbers):
        self.tariff = tariff
        self.named = named
        self.pinned = pinned
        self.numbers = numbers

    def with_forms(self, tariff, named):
        """The same board with these prices and forms, which can be treated together."""
        known = self.numbers if tariff == self.tariff else {}
        kept = [name for name in named if self.named.get(name) == named[name]]
        numbers = {}
        for one in sorted(named):
            for other in sorted(named):
                if one != other:
                    is_kept = one in kept and other in kept and (one, other) in known
                    numbers[one, other] = known[one, other] if is_kept else height_of(named[one], named[other], tariff)
        return Board(tariff, ascending_dict(named), self.pinned, numbers)

    def with_pins(self, pinned):
        """The same board with these pins."""
        return Board(self.tariff, self.named, pinned, self.numbers)

    def has_pins_about(self, names):
        """Whether all pins are about some of these names."""
        return all([name in names for pin in self.pinned for name in _names_in(pin)])

    def is_pin(self, value):
        """Whether the value is a pin about names that are there."""
        if not isinstance(value, tuple) or not value:
            return False
        if value[0] == "has":
            return len(value) == 3 and self.has_name(value[1]) and is_word(value[2])
        if value[0] == "bounded":
            return len(value) == 3 and self.is_pair(value[1], value[2])
        is_within = value[0] == "within" and len(value) == 4
        return is_within and self.is_pair(value[1], value[2]) and is_number_within(value[3], 0, MAX_PINNED)

    def is_pair(self, one, other):
        """Whether the values are two different names that are there."""
        return self.has_name(one) and self.has_name(other) and one != other

    def has_name(self, value):
        """Whether the value is a name that is there."""
        return isinstance(value, str) and value in self.named

    def holds(self, pin):
        """Whether a pin holds."""
        if pin[0] == "has":
            return pin[2] in self.named[pin[1]]
        number = self.numbers[pin[1], pin[2]]
        return number is not None and (pin[0] == "bounded" or number <= pin[3])

    def news_since(self, other):
        """The news that lead from another board to this one."""
        pairs = sorted(set(list(self.numbers) + list(other.numbers)))
        news = [(*pair, other.numbers.get(pair, "none"), self.numbers.get(pair, "none")) for pair in pairs]
        return tuple([told for told in news if told[2] != told[3]])


def is_name(value):
    """Whether the value is a name."""
    return isinstance(value, str) and 1 <= len(value) <= MAX_NAME and value.strip(LETTERS) == ""


def _names_in(pin):
    """The names in a pin."""
    return pin[1:2] if pin[0] == "has" else pin[1:3]
