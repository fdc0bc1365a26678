"""Nets: machines that can be in several states at once.

A net is a list of dicts, one for each state, from signs to tuples of the states behind them. Operators of forms run
this code, so it changes nothing but what it makes itself.
"""

from mendnumber.base.words import SIGNS


def determined(net, start, ends):
    """The machine that has the words that lead in a net from some state of `start` to some state of `ends`."""
    groups = [start]
    numbers = {start: 0}
    machine = []
    while len(machine) < len(groups):
        group = groups[len(machine)]
        moves = {}
        for sign in SIGNS:
            ahead = tuple(sorted(set([to for state in group for to in net[state].get(sign, ())])))
            if ahead:
                if ahead not in numbers:
                    numbers[ahead] = len(groups)
                    groups.append(ahead)
                moves[sign] = numbers[ahead]
        machine.append((moves, any([state in ends for state in group])))
    return machine


def one_behind_other(one, other):
    """The machine that has each word of `one` with each word of `other` behind it."""
    many = len(one)
    net = []
    for moves, _ in one:
        net.append({sign: (moves[sign], many) if one[moves[sign]][1] else (moves[sign],) for sign in moves})
    for moves, _ in other:
        net.append({sign: (many + moves[sign],) for sign in moves})
    start = (0, many) if one[0][1] else (0,)
    return determined(net, start, [many + at for at, (_, last) in enumerate(other) if last])


def repetition(machine):
    """The machine that has all words that are made of words of a machine, and the empty one."""
    # In this state a whole number of words has been read; it has no moves.
    whole = len(machine)
    net = []
    for moves, _ in machine:
        net.append({sign: (moves[sign], 0, whole) if machine[moves[sign]][1] else (moves[sign],) for sign in moves})
    net.append({})
    return determined(net, (0, whole), [whole])


def mirrored(machine):
    """The machine that has the words of a machine, read from the last sign to the first one."""
    net = []
    for to in range(len(machine)):
        net.append({sign: _states_ahead(machine, sign, to) for sign in SIGNS})
    start = tuple([state for state, (_, last) in enumerate(machine) if last])
    return determined(net, start, [0])


def _states_ahead(machine, sign, to):
    """The states from which a sign leads to a state."""
    return tuple([state for state, (moves, _) in enumerate(machine) if moves.get(sign) == to])
