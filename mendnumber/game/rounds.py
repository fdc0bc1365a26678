"""What hurried menders have to pay in so many rounds."""

from mendnumber.game.seats import greatest_sums, seats_ahead, sums_ahead


class Rounds:
    """For each position what a mender has to pay there in 1, 2, .. rounds, until the hurried number comes.

    Greater sums than the hurried number are not told apart. It never changes.
    """

    def __init__(self, sums):
        self.arena = sums.arena
        self.number = sums.number
        self._following = {seat: sums.seats_that_follow(seat) for seat in sums.seats()}
        zeros = (0,) * self.arena.many
        self._current = {seat: zeros for seat in self._following}
        # For each seat the numbers of the rounds in which its sums changed, with the new ones.
        self._history = {seat: [(0, zeros)] for seat in self._following}
        ahead = seats_ahead(self._following)
        changed = self._enter(1, list(self._following))
        self.many = 1
        while max([self._current[seat][0] for seat in self.arena.first_seats()]) < self.number:
            self.many += 1
            near = {seat: True for other in changed for seat in ahead[other]}
            changed = self._enter(self.many, list(near))

    def needed(self):
        """Dicts from positions to sums that cannot be avoided in 1, 2, .. rounds, up to the hurried number."""
        firsts = [seat for seat in self.arena.first_seats() if self._current[seat][0] == self.number]
        needed = {(firsts[0], 0): self.number}
        found = [needed]
        for many in range(self.many - 1, 0, -1):
            needed = self._needed_behind(many, needed)
            found.append(needed)
        return found[::-1]

    def _needed_behind(self, many, needed):
        """What is needed in so many rounds, one less than for these sums, so that each reply leads to them."""
        behind = {}
        for seat, goal in needed:
            for to, price in self.arena.pays[seat[1][0]][goal] if seat[1] else ():
                rest = needed[seat, goal] - price
                if rest > 0:
                    other = max([(self._sum_within(many, near, to), near) for near in self._following[seat]])[1]
                    behind[other, to] = max(rest, behind.get((other, to), 0))
        return behind

    def _sum_within(self, many, seat, goal):
        """What a mender has to pay at a position in so many rounds."""
        history = self._history[seat]
        at = len(history) - 1
        while history[at][0] > many:
            at -= 1
        return history[at][1][goal]

    def _enter(self, many, seats):
        """Find the sums of some seats in a round; the list of the seats where they differ from those ahead."""
        found = {}
        for seat in seats:
            behind = greatest_sums(self._following[seat], self._current)
            sums = sums_ahead(self.arena, seat, behind, self.number)
            if sums != self._current[seat]:
                found[seat] = sums
        for seat in found:
            self._current[seat] = found[seat]
            self._history[seat].append((many, found[seat]))
        return list(found)
