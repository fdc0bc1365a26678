"""Seats one behind the other.

A seat is the part of a position that a mender does not choose: a pair of a state of the source and a window.
"""


def seats_along(arena):
    """A dict from all seats that can come in a game to the lists of those behind them."""
    found = {}
    queue = arena.first_seats()
    while queue:
        seat = queue.pop()
        if seat not in found:
            found[seat] = arena.seats_behind(seat) if seat[1] else []
            queue.extend(found[seat])
    return found


def seats_ahead(following):
    """A dict from all seats to the lists of those ahead of them."""
    ahead = {seat: [] for seat in following}
    for seat in following:
        for other in following[seat]:
            ahead[other].append(seat)
    return ahead


def greatest_sums(seats, sums):
    """For each state of the target the greatest one of the sums of these seats."""
    rows = [sums[seat] for seat in seats]
    return tuple([max(numbers) for numbers in zip(*rows)])


def sums_ahead(arena, seat, behind, limit):
    """For each state of the target what has to be paid from a seat on, if these sums follow; none above a limit."""
    if seat[1] == "":
        return tuple([min(limit, price) for price in arena.end_prices])
    pays = arena.pays[seat[1][0]]
    return tuple([min(limit, min([price + behind[to] for to, price in replies])) for replies in pays])
