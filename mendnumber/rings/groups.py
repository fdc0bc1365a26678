"""Groups of states of a machine, as integers that have a bit for each state."""


def group_of(states):
    """The group of these states."""
    group = 0
    for state in states:
        group = group | 1 << state
    return group


def steps_of_machine(machine):
    """For each sign the pairs of the bits of a state and of the state behind it."""
    return steps_inside(machine, (tuple(range(len(machine))),))


def steps_inside(machine, parts):
    """The same for the moves alone that stay inside one of these parts."""
    steps = {}
    for part in parts:
        for state in part:
            moves = machine[state][0]
            for sign in moves:
                if moves[sign] in part:
                    steps.setdefault(sign, []).append((1 << state, 1 << moves[sign]))
    return steps


def group_behind(steps, group, sign):
    """The group of the states behind those of a group and a sign."""
    found = 0
    for near, to in steps.get(sign, ()):
        if group & near:
            found = found | to
    return found


def behind_word(steps, group, word):
    """The group of the states behind those of a group and a word."""
    for sign in word:
        group = group_behind(steps, group, sign)
    return group


def reached(steps, group):
    """The group of all states to which words lead from those of a group."""
    found = 0
    while found != group:
        found = group
        for sign in steps:
            group = group | group_behind(steps, group, sign)
    return group
