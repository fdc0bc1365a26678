"""Counting the words of a machine, and telling those of one length one behind the other."""

from mendnumber.forms.machines import walked


def word_counts(machine, many):
    """For each length from 0 to `many`, a list of how many words of this length lead from each state to a last one."""
    counts = [[1 if last else 0 for _, last in machine]]
    for _ in range(many):
        shorter = counts[-1]
        counts.append([sum([shorter[to] for to in moves.values()]) for moves, _ in machine])
    return counts


def first_of_length(machine, counts, state, length):
    """The first word of a length that leads from a state to a last one, or None."""
    if counts[length][state] == 0:
        return None
    word = ""
    for left in range(length - 1, -1, -1):
        moves = machine[state][0]
        sign = min([sign for sign in moves if counts[left][moves[sign]] > 0])
        word += sign
        state = moves[sign]
    return word


def next_of_length(machine, counts, start, word):
    """The next word of the same length behind a word that leads from a state to a last one, or None."""
    passed = walked(machine, word, start)
    for at in range(len(word) - 1, -1, -1):
        moves = machine[passed[at]][0]
        left = len(word) - at - 1
        greater = [sign for sign in moves if sign > word[at] and counts[left][moves[sign]] > 0]
        if greater:
            sign = min(greater)
            return word[:at] + sign + first_of_length(machine, counts, moves[sign], left)
    return None
