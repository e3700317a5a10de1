"""Calls as they stand in a line, and a line's answers taken apart; for the tests."""

from pinchanneldesk.channel import answers

FURTHEST = 1000000000


def pins(lower, upper):
    return [0, len(lower)] + list(lower) + [len(upper)] + list(upper)


def add(b, a):
    return [1, b, a]


def away(net):
    return [2, net]


LIST = [3]
LEAST = [4]


def fits(h):
    return [5, h]


def range_of(h):
    return [6, h]


BEST = [7]


def shift(d):
    return [8, d]


def wire(net, h):
    return [9, net, h]


def take_apart(told):
    """The answers of a line, one list each; the counts before them must fit exactly."""
    apart = []
    place = 0
    while place < len(told):
        size = told[place]
        answer = told[place + 1:place + 1 + size]
        if size < 1 or len(answer) != size:
            raise AssertionError(f"a count that does not fit at {place} of {told}")
        apart.append(answer)
        place += 1 + size
    return apart


def run(*calls):
    """One line of these calls; its answers, one list a call."""
    line = [number for call in calls for number in call]
    told = answers(line)
    if any([type(number) is not int for number in told]):
        raise AssertionError(f"an answer that is not a whole number in {told}")
    apart = take_apart(told)
    if len(apart) != len(calls):
        raise AssertionError(f"{len(apart)} answers to {len(calls)} calls")
    return apart


def last(*calls):
    return run(*calls)[-1]


def rows_of(count):
    """The rows of that many nets that go straight, at 0, 10, 20 .."""
    row = [10 * k for k in range(count)]
    return (row, row)
