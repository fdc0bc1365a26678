"""Judges of papers that look at each condition of the document, by other means than the program."""

import itertools

from mendnumber.rings.rings import Rings, covers
from oracles import cost_to, is_table, row_of_step
from values import words_of

FAR = 10 ** 6


def is_int(value):
    return type(value) is int and abs(value) < 10 ** 60


def is_word(value):
    return type(value) is str and set(value) <= set("abcde")


def ascends(values):
    return all(one < other for one, other in zip(values, values[1:]))


def is_ring(form, value):
    return type(value) is tuple and all(type(state) is int for state in value) and value in list(Rings(form))


def is_chain(source, target, value):
    """Whether a value is a chain paper."""
    under, over = Rings(source), Rings(target)
    if type(value) is not dict or not all(is_ring(source, ring) for ring in value) or len(value) != len(under):
        return False
    for ring, groups in value.items():
        if type(groups) is not tuple or not groups:
            return False
        for group in groups:
            if type(group) is not tuple or not group or not all(is_ring(target, one) for one in group):
                return False
            if not ascends(group) or not all(covers(target, one, source, ring) for one in group):
                return False
        if not ascends(groups):
            return False
    for ring, other in itertools.permutations(value, 2):
        if under.leads(ring, other):
            for group in value[ring]:
                if not any(all(any(over.leads(one, to) for one in group) for to in behind) for behind in value[other]):
                    return False
    return True


def is_family(source, target, value):
    """Whether a value is a growing family, by going through all states of the target that could be there."""
    if type(value) is not tuple or len(value) < 3 or len(value) % 2 == 0 or not all(map(is_word, value)):
        return False
    if "" in value[1::2] or not all("".join(word * (copies if at % 2 else 1) for at, word in enumerate(value)) in source
                                    for copies in range(3)):
        return False
    ahead = ""
    for at, word in enumerate(value):
        if at % 2 and source.walk(ahead)[-1] != source.walk(ahead + word)[-1]:
            return False
        ahead += word
    return not rows_of_states(target, value[1::2], range(len(target)))


def rows_of_states(target, words, starts):
    """Whether the words lead from state to state, from one of these on, with any words between them."""
    if not words:
        return True
    for state in starts:
        to = walk_from(target, state, words[0])
        if to is not None and rows_of_states(target, words[1:], sorted(reached(target, to))):
            return True
    return False


def walk_from(form, state, word):
    for sign in word:
        state = form.states[state][0].get(sign)
        if state is None:
            return None
    return state


def reached(form, state):
    found, level = set(), {state}
    while level:
        found |= level
        level = {to for near in level for to in form.states[near][0].values()} - found
    return found


def is_mend(source, target, prices, value):
    """Whether a value is a paper of one of the two kinds."""
    if type(value) is not tuple or not value or type(value[0]) is not str:
        return False
    if value[0] == "grows":
        return len(value) == 2 and is_family(source, target, value[1])
    if value[0] != "bounded" or len(value) != 4 or not is_int(value[1]) or not is_word(value[2]):
        return False
    return (value[2] in source and cost_to(value[2], target, prices) == value[1]
            and is_table(source, target, prices, value[1], value[3]))


def is_rings(source, target, value):
    """Whether a value is a ring paper."""
    under, over = Rings(source), Rings(target)
    if type(value) is not tuple:
        return False
    for pair in value:
        if type(pair) is not tuple or len(pair) != 2 or not is_ring(source, pair[0]) or not is_ring(target, pair[1]):
            return False
        if not covers(target, pair[1], source, pair[0]):
            return False
    if not ascends(value) or not all(any(pair[0] == ring for pair in value) for ring in under):
        return False
    return all(
        any(other == ring and over.leads(far, to) for other, to in value)
        for near, far in value for ring in under if under.leads(near, ring)
    )


class Game:
    """The game of hurried menders, by the rows of single signs."""

    def __init__(self, source, target, prices, ahead):
        self.source, self.target, self.prices, self.full = source, target, prices, ahead + 1

    def beginning(self, state, goal):
        """The positions at a state of the source with any window."""
        found = []
        for length in range(self.full + 1):
            for window in map("".join, itertools.product(self.source.signs, repeat=length)):
                if self.is_position((state, window, goal)):
                    found.append((state, window, goal))
        return found

    def is_position(self, value):
        if type(value) is not tuple or len(value) != 3 or not is_word(value[1]) or len(value[1]) > self.full:
            return False
        state, window, goal = value
        if type(state) is not int or not 0 <= state < len(self.source):
            return False
        if type(goal) is not int or not 0 <= goal < len(self.target):
            return False
        to = walk_from(self.source, state, window)
        return to is not None and (len(window) == self.full or self.source.states[to][1])

    def behind(self, position, goal):
        """The positions that can follow when a state of the target is the reply."""
        state, window, _ = position
        behind = self.source.states[state][0][window[0]]
        return [other for other in self.beginning(behind, goal)
                if other[1][:len(window) - 1] == window[1:] and (len(window) == self.full or other[1] == window[1:])]

    def puts(self, goal):
        """The least put prices of words that lead from a state of the target to each one, where there are some."""
        closed, found, changed = self.prices.closed().put, {goal: 0}, True
        while changed:
            changed = False
            for near in list(found):
                for sign, to in self.target.states[near][0].items():
                    if found[near] + closed[sign] < found.get(to, FAR):
                        found[to], changed = found[near] + closed[sign], True
        return found

    def replies(self, position):
        """The replies, with what they pay."""
        closed, sign, found = self.prices.closed(), position[1][0], {}
        puts = self.puts(position[2])
        for to in puts:
            ways = [puts[to] + closed.out[sign]]
            for near in puts:
                for other, behind in self.target.states[near][0].items():
                    if behind == to:
                        ways.append(puts[near] + (0 if other == sign else closed.swap[sign, other]))
            found[to] = min(ways)
        return found

    def end_price(self, goal):
        return min(paid for to, paid in self.puts(goal).items() if self.target.states[to][1])

    def is_dict(self, value):
        return type(value) is dict and all(map(self.is_position, value)) and all(
            is_int(number) and number >= 0 for number in value.values())

    def is_paper(self, value):
        """Whether a value is a paper of one of the two kinds."""
        if type(value) is not tuple or not value or type(value[0]) is not str:
            return False
        if value[0] == "none":
            return len(value) == 2 and self.is_ranks(value[1])
        return value[0] == "number" and len(value) == 4 and is_int(value[1]) and self.is_number(*value[1:])

    def is_number(self, number, most, rounds):
        if type(rounds) is not tuple or not rounds or not all(map(self.is_dict, (most, *rounds))):
            return False
        firsts = self.beginning(0, 0)
        if not all(first in most and most[first] <= number for first in firsts):
            return False
        for position, limit in most.items():
            if not position[1]:
                if self.end_price(position[2]) > limit:
                    return False
            elif not any(all(other in most and most[other] + paid <= limit for other in self.behind(position, to))
                         for to, paid in self.replies(position).items()):
                return False
        ahead = {}
        for found in rounds:
            for position, least in found.items():
                if not position[1]:
                    if least > self.end_price(position[2]):
                        return False
                elif not all(any(ahead.get(other, 0) + paid >= least for other in self.behind(position, to))
                             for to, paid in self.replies(position).items()):
                    return False
            ahead = found
        return any(ahead.get(first, 0) >= number for first in firsts)

    def is_ranks(self, ranks):
        if not self.is_dict(ranks) or not all(len(position[1]) == self.full for position in ranks):
            return False
        if not any(first in ranks for first in self.beginning(0, 0)):
            return False
        return all(
            any(other in ranks and (paid > 0 or ranks[other] < ranks[position]) for other in self.behind(position, to))
            for position in ranks for to, paid in self.replies(position).items()
        )


def hurried_by_words(source, target, prices, ahead):
    """The hurried number of a finite source, by a game over its words in which signs can also be put in behind."""
    words, game = words_of(source.states, len(source)), Game(source, target, prices, ahead)
    rows = [tuple(game.puts(goal).get(to, FAR) for to in range(len(target))) for goal in range(len(target))]
    steps = {(sign, goal): row_of_step(target, prices, row, sign) for sign in source.signs for goal, row in enumerate(rows)}
    ends = [game.end_price(goal) for goal in range(len(target))]

    def value(group, at, goal):
        windows = {}
        for word in group:
            windows.setdefault((word[:at + ahead + 1], len(word) <= at + ahead), []).append(word)
        found = []
        for (known, _), rest in windows.items():
            if len(known) == at:
                found.append(ends[goal])
            else:
                found.append(min(paid + value(rest, at + 1, to)
                                 for to, paid in enumerate(steps[known[at], goal]) if paid < FAR))
        return max(found)

    return value(words, 0, 0)
