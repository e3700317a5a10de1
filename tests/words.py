"""What the words say of nets, wires and drawings, written down word by word; for the tests."""

import itertools

from lines import FURTHEST

PLACES = 6
SHIFTS = range(-2 * PLACES, 2 * PLACES + 1)


def small_nets():
    """All two rows of pins from 0 to PLACES - 1."""
    for size in range(PLACES + 1):
        rows = list(itertools.combinations(range(PLACES), size))
        for lower in rows:
            for upper in rows:
                yield lower, upper


def is_wide_enough(lower, upper, h):
    return not narrow_nets(lower, upper, h)


def narrow_nets(lower, upper, h):
    return [
        i for i in range(len(lower))
        if i + h < len(lower) and not (lower[i + h] - upper[i] >= h and upper[i + h] - lower[i] >= h)
    ]


def told_least(lower, upper):
    return next(h for h in range(100) if is_wide_enough(lower, upper, h))


def told_range(lower, upper, h):
    doing = [d for d in SHIFTS if is_wide_enough(lower, [a + d for a in upper], h)]
    if len(doing) == len(SHIFTS):
        return [2]
    return [1, doing[0], doing[-1]] if doing else [0]


def told_best(lower, upper):
    for h in range(100):
        told = told_range(lower, upper, h)
        if told != [0]:
            return [h] + told[1:]


def told_corners(lower, upper, i, h):
    b, a = lower[i], upper[i]
    if a == b:
        return [(b, 0), (b, h + 1)]
    if a > b:
        marks = [lower[i + k] - k for k in range(1, len(lower) - i)]
        between = sorted({c for c in marks if b < c < a})
    else:
        marks = [lower[i - k] + k for k in range(1, i + 1)]
        between = sorted({c for c in marks if a < c < b}, reverse=True)

    def height(x):
        return 1 + sum(1 for c in marks if (c <= x if a > b else c >= x))

    corners = [(b, 0), (b, height(b))]
    for c in between:
        corners.append((c, corners[-1][1]))
        corners.append((c, height(c)))
    corners.append((a, corners[-1][1]))
    corners.append((a, h + 1))
    return corners


def boxes(corners):
    """The straight pieces, each as least x, greatest x, least y, greatest y."""
    return [
        (min(x1, x2), max(x1, x2), min(y1, y2), max(y1, y2))
        for (x1, y1), (x2, y2) in zip(corners, corners[1:])
    ]


def meet(one, other):
    return any(
        p[0] <= q[1] and q[0] <= p[1] and p[2] <= q[3] and q[2] <= p[3]
        for p in boxes(one) for q in boxes(other)
    )


def told_wires(lower, upper, h):
    return [told_corners(lower, upper, i, h) for i in range(len(lower))]


def told_length(wires):
    return sum(
        abs(x1 - x2) + abs(y1 - y2)
        for corners in wires for (x1, y1), (x2, y2) in zip(corners, corners[1:])
    )


def told_track(wires, y):
    pieces = []
    for i, corners in enumerate(wires):
        pieces += [(i, left, right) for left, right, low, high in boxes(corners) if low == high == y]
    return [len(pieces)] + [number for piece in pieces for number in piece]


def told_at(wires, x, y):
    having = [
        i for i, corners in enumerate(wires)
        if any(left <= x <= right and low <= y <= high for left, right, low, high in boxes(corners))
    ]
    return [1, having[0]] if having else [0]


def may_be_upper(lower, upper, i, h, n):
    """Whether n may be the upper pin of net i, as room asks for it."""
    row = list(upper)
    row[i] = n
    if not -FURTHEST <= n <= FURTHEST or any(one >= other for one, other in zip(row, row[1:])):
        return False
    if i + h < len(lower) and not lower[i + h] - n >= h:
        return False
    return not (i - h >= 0 and not n - lower[i - h] >= h)


def told_room(lower, upper, i, h):
    tried = [-FURTHEST - 1, -FURTHEST] + list(range(-3 * PLACES, 4 * PLACES)) + [FURTHEST, FURTHEST + 1]
    doing = [n for n in tried if may_be_upper(lower, upper, i, h, n)]
    return [1, doing[0], doing[-1]] if doing else [0]


def is_no_wire(corners, b, a, h):
    if len(corners) < 2 or corners[0] != (b, 0) or corners[-1] != (a, h + 1):
        return True
    return any(
        (x1, y1) == (x2, y2) or (x1 != x2 and y1 != y2)
        for (x1, y1), (x2, y2) in zip(corners, corners[1:])
    )


def told_wrong(lower, upper, h, wires):
    """What is wrong of a drawing, in the order in which it is looked at."""
    if len(wires) != len(lower):
        return [1]
    for i, corners in enumerate(wires):
        if is_no_wire(corners, lower[i], upper[i], h):
            return [2, i]
    for i, corners in enumerate(wires):
        if any(not 1 <= y <= h for x, y in corners[1:-1]):
            return [3, i]
    for i, j in itertools.combinations(range(len(wires)), 2):
        if meet(wires[i], wires[j]):
            return [4, i, j]
    return [0]
