"""What single changes cost."""

from mendnumber.base.integers import LARGEST, check_number, is_number_within
from mendnumber.base.orders import ascending_dict
from mendnumber.base.words import check_signs, is_sign
from mendnumber.errors import InvalidChange, InvalidNumber, InvalidOperation, InvalidPrices

MAX_PRICE = 9
MAX_SWAP_PRICE = 18


class Prices:
    """Put, out and swap prices for some signs; they never change."""

    def __init__(self, *, put, out, swap):
        if not _are_tables(put, out, swap):
            raise InvalidPrices("not the put, out and swap prices of one to five signs")
        self._signs = tuple(sorted(put))
        self._put = ascending_dict(put)
        self._out = ascending_dict(out)
        self._swap = ascending_dict(swap)

    @classmethod
    def even(cls, signs, price=1):
        """This price for all changes of these signs, with all swaps."""
        check_signs(signs)
        check_number(price, 1, MAX_PRICE)
        alone = {sign: price for sign in signs}
        return cls(put=alone, out=alone, swap={pair: price for pair in _pairs(signs)})

    @property
    def signs(self):
        """The ascending tuple of the signs that have prices."""
        return self._signs

    @property
    def put(self):
        """The put prices."""
        return ascending_dict(self._put)

    @property
    def out(self):
        """The out prices."""
        return ascending_dict(self._out)

    @property
    def swap(self):
        """The swap prices."""
        return ascending_dict(self._swap)

    @property
    def smallest(self):
        """The least of all prices."""
        return min([
            min(self._put.values()),
            min(self._out.values()),
            min(self._swap.values(), default=MAX_SWAP_PRICE),
        ])

    def closed(self):
        """The least prices with which all costs are the same."""
        costs = costs_by_ends(self)
        return Prices(
            put={sign: costs["", sign] for sign in self._signs},
            out={sign: costs[sign, ""] for sign in self._signs},
            swap={pair: costs[pair] for pair in _pairs(self._signs)},
        )

    def is_closed(self):
        """Whether these are closed prices."""
        return self == self.closed()

    def is_at_most(self, other):
        """Whether both have the same signs, and no closed price is greater than the other's."""
        check_prices(other)
        if self._signs != other._signs:
            return False
        costs = costs_by_ends(self)
        limits = costs_by_ends(other)
        return all([costs[way] <= limits[way] for way in costs])

    def with_price(self, change, price):
        """The prices with another price for a kind of change, or without this swap."""
        if not _is_kind(change, self._signs):
            raise InvalidChange("not a kind of change of these signs")
        kind = change[0]
        if not _is_price(kind, price):
            raise InvalidNumber(price)
        tables = {"put": self.put, "out": self.out, "swap": self.swap}
        key = change[1:] if kind == "swap" else change[1]
        if price is None:
            tables[kind].pop(key, None)
        else:
            tables[kind][key] = price
        return Prices(put=tables["put"], out=tables["out"], swap=tables["swap"])

    def limited(self, signs):
        """The prices for these signs alone."""
        check_signs(signs)
        if not have_signs(self, signs):
            raise InvalidOperation("a sign has no prices")
        return Prices(
            put={sign: self._put[sign] for sign in signs},
            out={sign: self._out[sign] for sign in signs},
            swap={pair: self._swap[pair] for pair in self._swap if _is_pair(pair, signs)},
        )

    def times(self, many):
        """All prices so many times."""
        check_number(many, 1, LARGEST)
        put = _multiplied(self._put, many)
        out = _multiplied(self._out, many)
        swap = _multiplied(self._swap, many)
        if not _are_tables(put, out, swap):
            raise InvalidOperation("a price would be too great")
        return Prices(put=put, out=out, swap=swap)

    def __contains__(self, value):
        return value in self._signs

    def __len__(self):
        return len(self._signs)

    def __eq__(self, other):
        return (
            isinstance(other, Prices)
            and self._put == other._put
            and self._out == other._out
            and self._swap == other._swap
        )

    def __str__(self):
        return f"prices of {len(self._signs)} signs, {len(self._swap)} swaps"


def check_prices(prices):
    """Refuse a value that is no prices."""
    if not isinstance(prices, Prices):
        raise InvalidPrices("these are no prices")


def have_signs(prices, signs):
    """Whether all signs of a word or a tuple have prices."""
    return all([sign in prices for sign in signs])


def costs_by_ends(prices):
    """The costs between all of "" and the words of one sign, by pairs of these words."""
    return _least_costs(prices.put, prices.out, prices.swap)


def _are_tables(put, out, swap):
    """Whether the values are put, out and swap prices of the same signs."""
    if not _is_sign_table(put) or not _is_sign_table(out) or sorted(put) != sorted(out):
        return False
    if not _has_prices(swap, MAX_SWAP_PRICE):
        return False
    signs = tuple(put)
    return all([_is_pair(pair, signs) for pair in swap])


def _is_sign_table(value):
    """Whether the value is a dict from at least one sign to put or out prices."""
    if not _has_prices(value, MAX_PRICE) or not value:
        return False
    return all([is_sign(sign) for sign in value])


def _has_prices(value, most):
    """Whether the value is a dict to integers from 1 to `most`."""
    if not isinstance(value, dict):
        return False
    return all([is_number_within(price, 1, most) for price in value.values()])


def _is_pair(value, signs):
    """Whether the value is a pair of two different ones of these signs."""
    if not isinstance(value, tuple) or len(value) != 2:
        return False
    return value[0] in signs and value[1] in signs and value[0] != value[1]


def _is_kind(value, signs):
    """Whether the value tells a kind of change of these signs."""
    if not isinstance(value, tuple) or len(value) not in (2, 3):
        return False
    if value[0] == "swap":
        return _is_pair(value[1:], signs)
    return value[0] in ("put", "out") and len(value) == 2 and value[1] in signs


def _is_price(kind, value):
    """Whether the value can be set as the price of this kind of change."""
    if kind == "swap":
        return value is None or is_number_within(value, 1, MAX_SWAP_PRICE)
    return is_number_within(value, 1, MAX_PRICE)


def _multiplied(table, many):
    """A copy of a dict of prices, with all of them so many times."""
    return {key: table[key] * many for key in table}


def _pairs(signs):
    """All pairs of two different ones of these signs, ascending."""
    return [(one, other) for one in signs for other in signs if one != other]


def _least_costs(put, out, swap):
    """The costs between all of "" and the words of one sign, by pairs of these words."""
    costs = _direct_costs(put, out, swap)
    # A sign can also be taken out and another one put in, so "" is a place on the way, too.
    places = [""] + list(put)
    for via in places:
        for one in places:
            for other in places:
                way = costs[one, via] + costs[via, other]
                costs[one, other] = min(costs[one, other], way)
    return costs


def _direct_costs(put, out, swap):
    """The price of one change between these words, or of two where a swap has no price."""
    costs = {("", ""): 0}
    for one in put:
        costs["", one] = put[one]
        costs[one, ""] = out[one]
        for other in put:
            costs[one, other] = swap.get((one, other), out[one] + put[other])
        costs[one, one] = 0
    return costs
