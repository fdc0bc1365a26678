"""Where hurried menders can be made to pay again and again."""

from mendnumber.rings.groups import group_of


def ranks_of(arena, along):
    """A dict from pairs of a seat and a state of the target where menders can be made to pay without end.

    `along` is a dict from all seats to those behind them. The ranks tell after how many replies that pay nothing the
    next one has to pay at the latest.
    """
    full = [seat for seat in along if arena.is_full(seat)]
    following = {seat: [other for other in along[seat] if arena.is_full(other)] for seat in full}
    free = _replies(arena, False)
    paid = _replies(arena, True)
    kept = {seat: (1 << arena.many) - 1 for seat in following}
    while True:
        ranks = _ranks_within(following, free, paid, kept)
        found = {seat: group_of([goal for goal in range(arena.many) if (seat, goal) in ranks]) for seat in following}
        if found == kept:
            return ranks
        kept = found


def _replies(arena, is_paid):
    """For each sign and state of the target the group of the replies that pay something, or of those that do not."""
    return {
        sign: [group_of([to for to, price in pays if (price > 0) == is_paid]) for pays in arena.pays[sign]]
        for sign in arena.pays
    }


def _ranks_within(following, free, paid, kept):
    """The ranks by which menders can be made to pay once, and to stay in what is kept."""
    ranks = {}
    done = {seat: 0 for seat in following}
    level = 0
    found = True
    while found:
        found = []
        for seat in following:
            staying = _group_among(following[seat], kept)
            ranked = _group_among(following[seat], done)
            sign = seat[1][0]
            for goal in range(len(free[sign])):
                is_open = kept[seat] >> goal & 1 and not done[seat] >> goal & 1
                if is_open and not paid[sign][goal] & ~staying and not free[sign][goal] & ~ranked:
                    found.append((seat, goal))
        for seat, goal in found:
            ranks[seat, goal] = level
            done[seat] = done[seat] | 1 << goal
        level += 1
    return ranks


def _group_among(seats, groups):
    """The states of the target that are in the group of one of these seats."""
    found = 0
    for seat in seats:
        found = found | groups[seat]
    return found
