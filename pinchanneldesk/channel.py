"""The calls on two rows of pins, and what they answer."""

from pinchanneldesk.geometry import least_width
from pinchanneldesk.geometry import narrow_net
from pinchanneldesk.geometry import shift_bounds
from pinchanneldesk.geometry import some_shift_does
from pinchanneldesk.geometry import wire_corners

GREATEST_PIN = 1000000000
MOST_NETS = 64
MOST_TRACKS = 1000

NO_SUCH_NET = -1
OUT_OF_RANGE = -2
BAD_ROWS = -3
TOO_MANY_NETS = -4
TOO_NARROW = -5


class Desk:
    """The nets: their lower and their upper pins, both from the left to the right."""

    def __init__(self):
        self.lower_pins = []
        self.upper_pins = []


def is_pin(number):
    return -GREATEST_PIN <= number <= GREATEST_PIN


def is_width(h):
    return 0 <= h <= MOST_TRACKS


def has_net(desk, net):
    return 0 <= net < len(desk.lower_pins)


def rises_strictly(row):
    return all([row[k] < row[k + 1] for k in range(len(row) - 1)])


def is_pin_row(row):
    return all([is_pin(number) for number in row]) and rises_strictly(row)


def pins(desk, given):
    lower = given[0]
    upper = given[1]
    if len(lower) != len(upper) or len(lower) > MOST_NETS:
        return [BAD_ROWS]
    if not is_pin_row(lower) or not is_pin_row(upper):
        return [BAD_ROWS]
    desk.lower_pins = lower
    desk.upper_pins = upper
    return [len(lower)]


def add(desk, given):
    b = given[0]
    a = given[1]
    if not is_pin(b) or not is_pin(a):
        return [OUT_OF_RANGE]
    net = len([pin for pin in desk.lower_pins if pin < b])
    lower = desk.lower_pins[:net] + [b] + desk.lower_pins[net:]
    upper = desk.upper_pins[:net] + [a] + desk.upper_pins[net:]
    if not rises_strictly(lower) or not rises_strictly(upper):
        return [BAD_ROWS]
    if len(lower) > MOST_NETS:
        return [TOO_MANY_NETS]
    desk.lower_pins = lower
    desk.upper_pins = upper
    return [net]


def away(desk, given):
    net = given[0]
    if not has_net(desk, net):
        return [NO_SUCH_NET]
    desk.lower_pins.pop(net)
    desk.upper_pins.pop(net)
    return [0]


def list_nets(desk, given):
    answer = [len(desk.lower_pins)]
    for b, a in zip(desk.lower_pins, desk.upper_pins):
        answer.append(b)
        answer.append(a)
    return answer


def least(desk, given):
    return [least_width(desk.lower_pins, desk.upper_pins)]


def fits(desk, given):
    h = given[0]
    if not is_width(h):
        return [OUT_OF_RANGE]
    net = narrow_net(desk.lower_pins, desk.upper_pins, h)
    return [1] if net is None else [0, net]


def range_of(desk, given):
    h = given[0]
    if not is_width(h):
        return [OUT_OF_RANGE]
    bounds = shift_bounds(desk.lower_pins, desk.upper_pins, h)
    if bounds is None:
        return [2]
    if not some_shift_does(bounds):
        return [0]
    return [1, bounds[0], bounds[1]]


def best(desk, given):
    h = 0
    bounds = shift_bounds(desk.lower_pins, desk.upper_pins, h)
    while not some_shift_does(bounds):
        h += 1
        bounds = shift_bounds(desk.lower_pins, desk.upper_pins, h)
    if bounds is None:
        return [h]
    return [h, bounds[0], bounds[1]]


def shift(desk, given):
    d = given[0]
    upper = [pin + d for pin in desk.upper_pins]
    if not all([is_pin(pin) for pin in upper]):
        return [OUT_OF_RANGE]
    desk.upper_pins = upper
    return [0]


def width_refusal(desk, h):
    """The refusal of a width that wires can't be drawn in, None if they can."""
    if not is_width(h):
        return OUT_OF_RANGE
    if narrow_net(desk.lower_pins, desk.upper_pins, h) is not None:
        return TOO_NARROW
    return None


def wire(desk, given):
    net = given[0]
    h = given[1]
    if not has_net(desk, net):
        return [NO_SUCH_NET]
    refusal = width_refusal(desk, h)
    if refusal is not None:
        return [refusal]
    return told_wire(wire_corners(desk.lower_pins, desk.upper_pins, net, h))


def told_wire(corners):
    """A wire as it is answered: how many corners, then x and y of each."""
    answer = [len(corners)]
    for x, y in corners:
        answer.append(x)
        answer.append(y)
    return answer


# Of each call: what answers it, how many whole numbers it has, and how many rows behind these.
CALLS = {
    0: (pins, 0, 2),
    1: (add, 2, 0),
    2: (away, 1, 0),
    3: (list_nets, 0, 0),
    4: (least, 0, 0),
    5: (fits, 1, 0),
    6: (range_of, 1, 0),
    7: (best, 0, 0),
    8: (shift, 1, 0),
    9: (wire, 2, 0),
}


class Reader:
    """A walk through the calls, number by number; it changes its own place alone."""

    def __init__(self, calls):
        self.calls = calls
        self.place = 0

    def has_more(self):
        return self.place < len(self.calls)

    def read_number(self):
        number = self.calls[self.place]
        self.place += 1
        return number

    def read_row(self):
        size = self.read_number()
        # A slice is a copy, so a row may be kept and changed later on.
        row = self.calls[self.place:self.place + size]
        self.place += size
        return row


def answer_call(desk, reader):
    """Reads one call and carries it out; the list of numbers that it answers."""
    call = CALLS[reader.read_number()]
    given = []
    for k in range(call[1]):
        given.append(reader.read_number())
    for k in range(call[2]):
        given.append(reader.read_row())
    carry_out = call[0]
    return carry_out(desk, given)


def answers(calls):
    """What all the calls answer, each with how many numbers it answers before them."""
    desk = Desk()
    reader = Reader(calls)
    told = []
    while reader.has_more():
        answer = answer_call(desk, reader)
        told.append(len(answer))
        told.extend(answer)
    return told
