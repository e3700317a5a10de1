"""Calls as they stand in a line, and a line's answers taken apart; for the tests."""

from pinchanneldesk.channel import answers

FURTHEST = 1000000000


def pins(lower, upper):
    return [0, len(lower)] + list(lower) + [len(upper)] + list(upper)


def add(b, a):
    return [1, b, a]


def away(net):
    return [2, net]


LIST = [3]
LEAST = [4]


def fits(h):
    return [5, h]


def range_of(h):
    return [6, h]


BEST = [7]


def shift(d):
    return [8, d]


def wire(net, h):
    return [9, net, h]


def route(h):
    return [10, h]


def length(h):
    return [11, h]


def track(h, y):
    return [12, h, y]


def at(h, x, y):
    return [13, h, x, y]


def check_row(h, row):
    """The call check with its row as it stands, whether it can be read or not."""
    return [14, h, len(row)] + list(row)


def check(h, *wires):
    """The call check of a drawing of these wires, each a list of corners."""
    return check_row(h, [number for corners in wires for number in flat(corners)])


def room(net, h):
    return [15, net, h]


def move(net, a):
    return [16, net, a]


TURN = [17]
MIRROR = [18]


def flat(corners):
    """A wire as it is told: how many corners, then x and y of each."""
    return [len(corners)] + [number for corner in corners for number in corner]


def take_apart(told):
    """The answers of a line, one list each; the counts before them must fit exactly."""
    apart = []
    place = 0
    while place < len(told):
        size = told[place]
        answer = told[place + 1:place + 1 + size]
        if size < 1 or len(answer) != size:
            raise AssertionError(f"a count that does not fit at {place} of {told}")
        apart.append(answer)
        place += 1 + size
    return apart


def run(*calls):
    """One line of these calls; its answers, one list a call."""
    line = [number for call in calls for number in call]
    told = answers(line)
    if any([type(number) is not int for number in told]):
        raise AssertionError(f"an answer that is not a whole number in {told}")
    apart = take_apart(told)
    if len(apart) != len(calls):
        raise AssertionError(f"{len(apart)} answers to {len(calls)} calls")
    return apart


def last(*calls):
    return run(*calls)[-1]


def rows_of(count):
    """The rows of that many nets that go straight, at 0, 10, 20 .."""
    row = [10 * k for k in range(count)]
    return (row, row)
