"""What hurried menders have to pay."""

from mendnumber.game.ranks import ranks_of
from mendnumber.game.seats import greatest_sums, seats_ahead, seats_along, sums_ahead

# Menders that can be made to pay without end pay more than this.
ENDLESS = 10 ** 9


class Sums:
    """For each position the least sum that a mender pays from there on, whatever comes; it never changes.

    Only for a source and a target that have a hurried number.
    """

    def __init__(self, arena):
        self.arena = arena
        self._following = seats_along(arena)
        self._sums = _starting_sums(arena, self._following)
        ahead = seats_ahead(self._following)
        queue = list(self._following)
        waiting = {seat: True for seat in queue}
        at = 0
        while at < len(queue):
            seat = queue[at]
            waiting[seat] = False
            at += 1
            sums = sums_ahead(arena, seat, self._sums_behind(seat), ENDLESS)
            if sums != self._sums[seat]:
                self._sums[seat] = sums
                for other in ahead[seat]:
                    if not waiting[other]:
                        waiting[other] = True
                        queue.append(other)
        self.number = max([self._sums[seat][0] for seat in arena.first_seats()])

    def seats(self):
        """The list of all seats that can come."""
        return list(self._following)

    def seats_that_follow(self, seat):
        """The seats of the positions that can follow."""
        return self._following[seat]

    def sum_at(self, seat, goal):
        """The sum of a position."""
        return self._sums[seat][goal]

    def reply(self, seat, goal):
        """A reply at a position with which a mender pays no more than its sum, and what it pays."""
        behind = self._sums_behind(seat)
        options = [(price + behind[to], to, price) for to, price in self.arena.pays[seat[1][0]][goal]]
        _, to, price = min(options)
        return (to, price)

    def _sums_behind(self, seat):
        """For each state of the target the greatest sum of the positions there that can follow."""
        return greatest_sums(self._following[seat], self._sums)


def _starting_sums(arena, following):
    """The sums at first: nothing has to be paid but where it has to be paid without end."""
    endless = ranks_of(arena, following)
    sums = {}
    for seat in following:
        sums[seat] = tuple([ENDLESS if (seat, goal) in endless else 0 for goal in range(arena.many)])
    return sums
