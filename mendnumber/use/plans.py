"""What hurried menders do."""

from mendnumber.base.changes import changes_between
from mendnumber.forms.machines import walked
from mendnumber.use.replacements import Replacements


class Plan:
    """The replies of hurried menders of one kind; it never changes.

    What is done for a sign, or at the end, is told as a deed: the state of the target that is reached, what was paid
    up to then, the length of the result up to then, the word by which it got longer, and the changes.
    """

    def __init__(self, source, target, prices, sums):
        self.source = source
        self.target = target
        self.tariff = prices
        self.ahead = sums.arena.full - 1
        self.number = sums.number
        self._sums = sums
        self._closed = prices.closed()
        self._replacements = Replacements(target, prices)

    def is_like(self, other):
        """Whether the other plan was made with equal arguments."""
        mine = (self.source, self.target, self.tariff, self.ahead)
        return mine == (other.source, other.target, other.tariff, other.ahead)

    def states_along(self, word):
        """The states of the source along a word, as far as there are moves."""
        return walked(self._sums.arena.machine, word)

    def next_deed(self, seat, deeds):
        """The deed at the first sign of a window, behind these deeds."""
        goal, paid, length = _stand(deeds)
        to, price = self._sums.reply(seat, goal)
        sign = seat[1][0]
        word, new = self._replacements.with_put_ahead(sign, goal, to)
        return self._deed(to, paid + price, length, _puts(word) + [(sign, new)])

    def last_deed(self, deeds):
        """The deed at the end of a word, behind these deeds."""
        goal, paid, length = _stand(deeds)
        word = self._replacements.put_to_end(goal)
        return self._deed(goal, paid + self._sums.arena.end_prices[goal], length, _puts(word))

    def most_to_pay(self, state, window, deeds):
        """What will be paid at most behind these deeds, if the signs of a window wait and the word can go on."""
        goal, paid, _ = _stand(deeds)
        seats = self._sums.arena.seats_from(state, window)
        return paid + max([self._sums.sum_at(seat, goal) for seat in seats])

    def _deed(self, goal, paid, length, ends):
        """The deed that sets what stands second in these pairs in the place of what stands first."""
        word = "".join([new for _, new in ends])
        changes = []
        for change in changes_between(ends, self._closed):
            changes.append((change[0], change[1] + length, *change[2:]))
        return (goal, paid, length + len(word), word, tuple(changes))


def _stand(deeds):
    """The state of the target that is reached behind deeds, what was paid, and the length of the result."""
    return deeds[-1][:3] if deeds else (0, 0, 0)


def _puts(word):
    """The pairs of "" and the signs of a word that is put in."""
    return [("", sign) for sign in word]
