"""The calls on two rows of pins, and what they answer."""

from pinchanneldesk.drawings import read_wires
from pinchanneldesk.drawings import what_is_wrong
from pinchanneldesk.geometry import all_wires
from pinchanneldesk.geometry import has_point
from pinchanneldesk.geometry import least_width
from pinchanneldesk.geometry import narrow_net
from pinchanneldesk.geometry import pieces_along
from pinchanneldesk.geometry import room_bounds
from pinchanneldesk.geometry import shift_bounds
from pinchanneldesk.geometry import some_shift_does
from pinchanneldesk.geometry import wire_corners
from pinchanneldesk.reader import Reader

GREATEST_PIN = 1000000000
MOST_NETS = 64
MOST_TRACKS = 1000

NO_SUCH_NET = -1
OUT_OF_RANGE = -2
BAD_ROWS = -3
TOO_MANY_NETS = -4
TOO_NARROW = -5


class Desk:
    """The nets: their lower and their upper pins, both from the left to the right."""

    def __init__(self):
        self.lower_pins = []
        self.upper_pins = []


def is_pin(number):
    return -GREATEST_PIN <= number <= GREATEST_PIN


def is_width(h):
    return 0 <= h <= MOST_TRACKS


def has_net(desk, net):
    return 0 <= net < len(desk.lower_pins)


def rises_strictly(row):
    return all([row[k] < row[k + 1] for k in range(len(row) - 1)])


def is_pin_row(row):
    return all([is_pin(number) for number in row]) and rises_strictly(row)


def pins(desk, given):
    lower = given[0]
    upper = given[1]
    if len(lower) != len(upper) or len(lower) > MOST_NETS:
        return [BAD_ROWS]
    if not is_pin_row(lower) or not is_pin_row(upper):
        return [BAD_ROWS]
    desk.lower_pins = lower
    desk.upper_pins = upper
    return [len(lower)]


def add(desk, given):
    b = given[0]
    a = given[1]
    if not is_pin(b) or not is_pin(a):
        return [OUT_OF_RANGE]
    net = len([pin for pin in desk.lower_pins if pin < b])
    lower = desk.lower_pins[:net] + [b] + desk.lower_pins[net:]
    upper = desk.upper_pins[:net] + [a] + desk.upper_pins[net:]
    if not rises_strictly(lower) or not rises_strictly(upper):
        return [BAD_ROWS]
    if len(lower) > MOST_NETS:
        return [TOO_MANY_NETS]
    desk.lower_pins = lower
    desk.upper_pins = upper
    return [net]


def away(desk, given):
    net = given[0]
    if not has_net(desk, net):
        return [NO_SUCH_NET]
    desk.lower_pins.pop(net)
    desk.upper_pins.pop(net)
    return [0]


def list_nets(desk, given):
    answer = [len(desk.lower_pins)]
    for b, a in zip(desk.lower_pins, desk.upper_pins):
        answer.append(b)
        answer.append(a)
    return answer


def least(desk, given):
    return [least_width(desk.lower_pins, desk.upper_pins)]


def fits(desk, given):
    h = given[0]
    if not is_width(h):
        return [OUT_OF_RANGE]
    net = narrow_net(desk.lower_pins, desk.upper_pins, h)
    return [1] if net is None else [0, net]


def range_of(desk, given):
    h = given[0]
    if not is_width(h):
        return [OUT_OF_RANGE]
    bounds = shift_bounds(desk.lower_pins, desk.upper_pins, h)
    if bounds is None:
        return [2]
    if not some_shift_does(bounds):
        return [0]
    return [1, bounds[0], bounds[1]]


def best(desk, given):
    h = 0
    bounds = shift_bounds(desk.lower_pins, desk.upper_pins, h)
    while not some_shift_does(bounds):
        h += 1
        bounds = shift_bounds(desk.lower_pins, desk.upper_pins, h)
    if bounds is None:
        return [h]
    return [h, bounds[0], bounds[1]]


def shift(desk, given):
    d = given[0]
    upper = [pin + d for pin in desk.upper_pins]
    if not all([is_pin(pin) for pin in upper]):
        return [OUT_OF_RANGE]
    desk.upper_pins = upper
    return [0]


def width_refusal(desk, h):
    """The refusal of a width that wires can't be drawn in, None if they can."""
    if not is_width(h):
        return OUT_OF_RANGE
    if narrow_net(desk.lower_pins, desk.upper_pins, h) is not None:
        return TOO_NARROW
    return None


def wire(desk, given):
    net = given[0]
    h = given[1]
    if not has_net(desk, net):
        return [NO_SUCH_NET]
    refusal = width_refusal(desk, h)
    if refusal is not None:
        return [refusal]
    return told_wire(wire_corners(desk.lower_pins, desk.upper_pins, net, h))


def told_wire(corners):
    """A wire as it is answered: how many corners, then x and y of each."""
    answer = [len(corners)]
    for x, y in corners:
        answer.append(x)
        answer.append(y)
    return answer


def route(desk, given):
    h = given[0]
    refusal = width_refusal(desk, h)
    if refusal is not None:
        return [refusal]
    answer = [len(desk.lower_pins)]
    for corners in all_wires(desk.lower_pins, desk.upper_pins, h):
        answer.extend(told_wire(corners))
    return answer


def length(desk, given):
    h = given[0]
    refusal = width_refusal(desk, h)
    if refusal is not None:
        return [refusal]
    # A wire drawn never turns back, so it is as long as its pins are apart, along and upright together.
    return [sum([abs(a - b) + h + 1 for b, a in zip(desk.lower_pins, desk.upper_pins)])]


def track(desk, given):
    h = given[0]
    y = given[1]
    refusal = width_refusal(desk, h)
    if refusal is not None:
        return [refusal]
    if not 1 <= y <= h:
        return [OUT_OF_RANGE]
    pieces = []
    for net, corners in enumerate(all_wires(desk.lower_pins, desk.upper_pins, h)):
        for left, right in pieces_along(corners, y):
            pieces.append((net, left, right))
    answer = [len(pieces)]
    for piece in pieces:
        answer.extend(piece)
    return answer


def at(desk, given):
    h = given[0]
    refusal = width_refusal(desk, h)
    if refusal is not None:
        return [refusal]
    for net, corners in enumerate(all_wires(desk.lower_pins, desk.upper_pins, h)):
        if has_point(corners, given[1], given[2]):
            return [1, net]
    return [0]


def check(desk, given):
    h = given[0]
    if not is_width(h):
        return [OUT_OF_RANGE]
    wires = read_wires(given[1])
    if wires is None:
        return [BAD_ROWS]
    return what_is_wrong(desk.lower_pins, desk.upper_pins, h, wires)


def room(desk, given):
    net = given[0]
    h = given[1]
    if not has_net(desk, net):
        return [NO_SUCH_NET]
    if not is_width(h):
        return [OUT_OF_RANGE]
    bounds = room_bounds(desk.lower_pins, desk.upper_pins, net, h, GREATEST_PIN)
    return [1, bounds[0], bounds[1]] if bounds[0] <= bounds[1] else [0]


def move(desk, given):
    net = given[0]
    a = given[1]
    if not has_net(desk, net):
        return [NO_SUCH_NET]
    if not is_pin(a):
        return [OUT_OF_RANGE]
    upper = desk.upper_pins[:net] + [a] + desk.upper_pins[net + 1:]
    if not rises_strictly(upper):
        return [BAD_ROWS]
    desk.upper_pins = upper
    return [0]


def turn(desk, given):
    lower = desk.lower_pins
    desk.lower_pins = desk.upper_pins
    desk.upper_pins = lower
    return [0]


def mirror(desk, given):
    desk.lower_pins = [-pin for pin in reversed(desk.lower_pins)]
    desk.upper_pins = [-pin for pin in reversed(desk.upper_pins)]
    return [0]


# Of each call: what answers it, how many whole numbers it has, and how many rows behind these.
CALLS = {
    0: (pins, 0, 2),
    1: (add, 2, 0),
    2: (away, 1, 0),
    3: (list_nets, 0, 0),
    4: (least, 0, 0),
    5: (fits, 1, 0),
    6: (range_of, 1, 0),
    7: (best, 0, 0),
    8: (shift, 1, 0),
    9: (wire, 2, 0),
    10: (route, 1, 0),
    11: (length, 1, 0),
    12: (track, 2, 0),
    13: (at, 3, 0),
    14: (check, 1, 1),
    15: (room, 2, 0),
    16: (move, 2, 0),
    17: (turn, 0, 0),
    18: (mirror, 0, 0),
}


def answer_call(desk, reader):
    """Reads one call and carries it out; the list of numbers that it answers."""
    call = CALLS[reader.read_number()]
    given = []
    for k in range(call[1]):
        given.append(reader.read_number())
    for k in range(call[2]):
        given.append(reader.read_row())
    carry_out = call[0]
    return carry_out(desk, given)


def answers(calls):
    """What all the calls answer, each with how many numbers it answers before them."""
    desk = Desk()
    reader = Reader(calls)
    told = []
    while reader.has_more():
        answer = answer_call(desk, reader)
        told.append(len(answer))
        told.extend(answer)
    return told
