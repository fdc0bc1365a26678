"""Costs and rows by other means than those of the program, and a check of the order of errors."""

import heapq

from mendnumber.base.prices import Prices
from mendnumber.errors import InvalidNumber
from mendnumber.forms.form import Form
from values import odd_values


def costs_to_states(word, target, prices):
    """The costs to lead to the states of a target, over single changes at prices that are not closed.

    A place tells how many signs are treated, the sign that is in hand, and the state that is reached.
    """
    states, costs, queue = target.states, {}, [(0, 0, "", 0)]
    while queue:
        paid, at, hand, state = heapq.heappop(queue)
        if (at, hand, state) in costs:
            continue
        costs[at, hand, state] = paid
        if hand:
            heapq.heappush(queue, (paid + prices.out[hand], at, "", state))
            if hand in states[state][0]:
                heapq.heappush(queue, (paid, at, "", states[state][0][hand]))
            for (one, other), price in prices.swap.items():
                if one == hand:
                    heapq.heappush(queue, (paid + price, at, other, state))
        else:
            for sign, price in prices.put.items():
                heapq.heappush(queue, (paid + price, at, sign, state))
            if at < len(word):
                heapq.heappush(queue, (paid, at + 1, word[at], state))
    return tuple(costs[len(word), "", state] for state in range(len(states)))


def cost_to(word, target, prices):
    row = costs_to_states(word, target, prices)
    return min(number for number, (_, last) in zip(row, target.states) if last)


def row_of_step(target, prices, row, sign):
    """The row behind a row and a sign, as the two steps say."""
    states, closed = target.states, prices.closed()
    first = []
    for to in range(len(states)):
        numbers = [row[to] + closed.out[sign]]
        for near, (moves, _) in enumerate(states):
            for other, behind in moves.items():
                if behind == to:
                    numbers.append(row[near] + (0 if other == sign else closed.swap[sign, other]))
        first.append(min(numbers))
    for _ in states:
        for near, (moves, _) in enumerate(states):
            for other, behind in moves.items():
                first[behind] = min(first[behind], first[near] + closed.put[other])
    return tuple(first)


def cut_at(row, limit):
    return tuple(min(number, limit) for number in row)


def above(one, other):
    return all(number >= least for number, least in zip(one, other))


def is_table(source, target, prices, most, value):
    """Whether a value is a bound table, by a look at each condition."""
    if type(value) is not dict or sorted(map(repr, value)) != sorted(map(repr, range(len(source)))):
        return False
    for rows in value.values():
        if type(rows) is not tuple or not rows:
            return False
        for row in rows:
            if type(row) is not tuple or len(row) != len(target):
                return False
            if not all(type(number) is int and 0 <= number <= most + 1 for number in row):
                return False
        if list(rows) != sorted(set(rows)):
            return False
    start = cut_at(costs_to_states("", target, prices), most + 1)
    if not any(above(row, start) for row in value[0]):
        return False
    for state, (moves, last) in enumerate(source.states):
        for row in value[state]:
            if last and min(number for number, (_, ends) in zip(row, target.states) if ends) > most:
                return False
            for sign, to in moves.items():
                behind = cut_at(row_of_step(target, prices, row, sign), most + 1)
                if not any(above(other, behind) for other in value[to]):
                    return False
    return True


def wrong_forms():
    return [value for value in odd_values() if not isinstance(value, Form)]


def wrong_prices():
    return [value for value in odd_values() if not isinstance(value, Prices)]


def wrong_words():
    return [value for value in odd_values() if type(value) is not str or not set(value) <= set("abcde")] + ["a" * 1001]


def wrong_numbers(least, most):
    return [value for value in odd_values() if type(value) is not int or not least <= value <= most] + [
        least - 1, most + 1]


def check_order(test, function, *parameters, **keywords):
    """Each parameter is told by a right value, wrong ones, and the error for these.

    Behind a wrong value all values are wrong, or all are right; its error has to be raised.
    """
    told = [(None, *given) for given in parameters] + [(name, *given) for name, given in keywords.items()]
    right = [given[1] for given in told]
    for at, (_, _, wrong, error) in enumerate(told):
        for value in wrong:
            for rest in ([given[2][0] for given in told[at + 1:]], right[at + 1:]):
                used = right[:at] + [value] + rest
                named = {given[0]: one for given, one in zip(told, used) if given[0]}
                with test.subTest(f"{function}, {at}: {repr(value)[:50]}"):
                    with test.assertRaises(error) as caught:
                        function(*used[:len(parameters)], **named)
                    if error is InvalidNumber:
                        test.assertIs(caught.exception.given, value)
