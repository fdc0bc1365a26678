"""Papers about hurried numbers."""

from mendnumber.base.integers import is_number
from mendnumber.base.orders import ascending_dict
from mendnumber.game.ranks import ranks_of
from mendnumber.game.rounds import Rounds
from mendnumber.game.seats import seats_along


def number_paper(sums):
    """The paper that shows the hurried number."""
    rounds = [
        ascending_dict({_position(seat, goal): needed[seat, goal] for seat, goal in needed})
        for needed in Rounds(sums).needed()
    ]
    return ("number", sums.number, _enough(sums), tuple(rounds))


def none_paper(arena):
    """The paper that shows that there is no hurried number."""
    ranks = ranks_of(arena, seats_along(arena))
    start = min([(ranks[seat, 0], seat) for seat in arena.first_seats() if (seat, 0) in ranks])[1]
    found = {}
    queue = [(start, 0)]
    while queue:
        seat, goal = queue.pop()
        if _position(seat, goal) not in found:
            found[_position(seat, goal)] = ranks[seat, goal]
            for to, _ in arena.pays[seat[1][0]][goal]:
                # The least rank is less than the one here where it has to be.
                queue.append((_least_ranked(arena.seats_behind(seat), to, ranks), to))
    return ("none", ascending_dict(found))


def is_number_paper(arena, value):
    """Whether the value is a paper that shows a hurried number."""
    if len(value) != 4 or not is_number(value[1]) or not isinstance(value[3], tuple) or not value[3]:
        return False
    _, number, most, rounds = value
    if not all([_is_sum_dict(arena, sums) for sums in (most, *rounds)]):
        return False
    firsts = [_position(seat, 0) for seat in arena.first_seats()]
    if not all([first in most and most[first] <= number for first in firsts]):
        return False
    if max([rounds[-1].get(first, 0) for first in firsts]) < number:
        return False
    if not all([_is_enough(arena, most, position) for position in most]):
        return False
    ahead = ({}, *rounds[:-1])
    return all([_is_needed(arena, near, sums) for near, sums in zip(ahead, rounds)])


def is_none_paper(arena, value):
    """Whether the value is a paper that shows that there is no hurried number."""
    if len(value) != 2 or not _is_sum_dict(arena, value[1]):
        return False
    ranks = value[1]
    if not all([len(position[1]) == arena.full for position in ranks]):
        return False
    if not any([_position(seat, 0) in ranks for seat in arena.first_seats()]):
        return False
    return all([_is_ranked(arena, ranks, position) for position in ranks])


def _enough(sums):
    """The sums of the positions to which a mender can come that replies as cheaply as it can."""
    found = {}
    queue = [(seat, 0) for seat in sums.arena.first_seats()]
    while queue:
        seat, goal = queue.pop()
        position = _position(seat, goal)
        if position not in found:
            found[position] = sums.sum_at(seat, goal)
            if seat[1]:
                to = sums.reply(seat, goal)[0]
                queue.extend([(other, to) for other in sums.seats_that_follow(seat)])
    return ascending_dict(found)


def _position(seat, goal):
    """The position of a seat and a state of the target."""
    return (seat[0], seat[1], goal)


def _least_ranked(seats, goal, ranks):
    """The seat of the least rank, with this state of the target."""
    return min([(ranks[seat, goal], seat) for seat in seats if (seat, goal) in ranks])[1]


def _is_sum_dict(arena, value):
    """Whether the value is a dict from positions to integers of at least 0."""
    if not isinstance(value, dict) or not all([is_number(number) and number >= 0 for number in value.values()]):
        return False
    return all([arena.is_position(position) for position in value])


def _is_enough(arena, most, position):
    """Whether some reply at a position costs at most its sum, with those of all positions that can follow."""
    state, window, goal = position
    if window == "":
        return arena.end_prices[goal] <= most[position]
    seats = arena.seats_behind((state, window))
    for to, price in arena.pays[window[0]][goal]:
        behind = [_position(seat, to) for seat in seats]
        if all([other in most and most[other] + price <= most[position] for other in behind]):
            return True
    return False


def _is_needed(arena, ahead, sums):
    """Whether no reply at positions avoids these sums, if those that are ahead cannot be avoided."""
    return all([_cannot_be_avoided(arena, ahead, position, sums[position]) for position in sums])


def _cannot_be_avoided(arena, ahead, position, number):
    """Whether behind each reply some position can follow where a sum comes that is at least this number."""
    state, window, goal = position
    if window == "":
        return number <= arena.end_prices[goal]
    seats = arena.seats_behind((state, window))
    for to, price in arena.pays[window[0]][goal]:
        if max([ahead.get(_position(seat, to), 0) for seat in seats]) + price < number:
            return False
    return True


def _is_ranked(arena, ranks, position):
    """Whether behind each reply some ranked position can follow, of a lower rank if the reply pays nothing."""
    state, window, goal = position
    seats = arena.seats_behind((state, window))
    for to, price in arena.pays[window[0]][goal]:
        behind = [ranks[_position(seat, to)] for seat in seats if _position(seat, to) in ranks]
        if not behind or price == 0 and min(behind) >= ranks[position]:
            return False
    return True
