"""Widths, shifts, room and wires of two rows of pins.

The rows are lists of whole numbers that rise strictly; net i has the pins lower[i] and upper[i].
"""


def narrow_net(lower, upper, h):
    """The least net that a channel of h tracks is too narrow for, None if it is wide enough."""
    for i in range(len(lower) - h):
        if lower[i + h] - upper[i] < h or upper[i + h] - lower[i] < h:
            return i
    return None


def least_width(lower, upper):
    """The least h for which a channel of h tracks is wide enough."""
    # This ends: with as many tracks as nets no net has another one that far on.
    h = 0
    while narrow_net(lower, upper, h) is not None:
        h += 1
    return h


def shift_bounds(lower, upper, h):
    """What a shift must at least and may at most be for h tracks, None if nothing bounds it.

    No shift does where the first one is greater than the second one.
    """
    if len(lower) <= h:
        return None
    least = max([lower[i] - upper[i + h] + h for i in range(len(lower) - h)])
    greatest = min([lower[i + h] - upper[i] - h for i in range(len(lower) - h)])
    return (least, greatest)


def some_shift_does(bounds):
    """Whether bounds, as shift_bounds answers them, leave a shift."""
    return bounds is None or bounds[0] <= bounds[1]


def room_bounds(lower, upper, net, h, greatest_pin):
    """What the net's upper pin must at least and may at most be while all other pins stay.

    No number does where the first one is greater than the second one.
    """
    floors = [-greatest_pin]
    ceilings = [greatest_pin]
    if net > 0:
        floors.append(upper[net - 1] + 1)
    if net + 1 < len(upper):
        ceilings.append(upper[net + 1] - 1)
    if net >= h:
        floors.append(lower[net - h] + h)
    if net + h < len(lower):
        ceilings.append(lower[net + h] - h)
    return (max(floors), min(ceilings))


def wire_corners(lower, upper, net, h):
    """The corners, each as (x, y), of the net's wire in a channel of h tracks that is wide enough."""
    b = lower[net]
    a = upper[net]
    if a == b:
        return [(b, 0), (b, h + 1)]
    if a > b:
        marks = [lower[j] - (j - net) for j in range(net + 1, len(lower))]
        return rising_corners(b, a, marks, h)
    # A wire to the left is the mirror's wire to the right: one drawing serves both.
    marks = [-(lower[j] + (net - j)) for j in range(net)]
    return [(-x, y) for x, y in rising_corners(-b, -a, marks, h)]


def rising_corners(b, a, marks, h):
    """The corners of a wire to the right, from b to a, that rises by one track for each mark."""
    height = 1 + len([mark for mark in marks if mark <= b])
    corners = [(b, 0), (b, height)]
    alike = count_alike([mark for mark in marks if b < mark < a])
    for mark in sorted(alike):
        corners.append((mark, height))
        height += alike[mark]
        corners.append((mark, height))
    corners.append((a, height))
    corners.append((a, h + 1))
    return corners


def count_alike(numbers):
    """A dict that tells of each number how often it is there."""
    counts = {}
    for number in numbers:
        counts[number] = counts.get(number, 0) + 1
    return counts


def all_wires(lower, upper, h):
    """The corners of every net's wire, by nets, in a channel of h tracks that is wide enough."""
    return [wire_corners(lower, upper, net, h) for net in range(len(lower))]


def pieces_along(corners, y):
    """The least and the greatest x of each piece of a wire that goes along the line y."""
    pieces = []
    for one, other in zip(corners, corners[1:]):
        if one[1] == y and other[1] == y:
            pieces.append((min(one[0], other[0]), max(one[0], other[0])))
    return pieces


def has_point(corners, x, y):
    for one, other in zip(corners, corners[1:]):
        if is_between(x, one[0], other[0]) and is_between(y, one[1], other[1]):
            return True
    return False


def is_between(number, one, other):
    return one <= number <= other or other <= number <= one
