"""All small nets: what is answered beside what the words say, written down word by word."""

import itertools
import unittest

from lines import BEST, LEAST, fits, pins, range_of, run, wire

PLACES = 6
SHIFTS = range(-2 * PLACES, 2 * PLACES + 1)


def small_nets():
    """All two rows of pins from 0 to PLACES - 1."""
    for size in range(PLACES + 1):
        rows = list(itertools.combinations(range(PLACES), size))
        for lower in rows:
            for upper in rows:
                yield lower, upper


def is_wide_enough(lower, upper, h):
    return not narrow_nets(lower, upper, h)


def narrow_nets(lower, upper, h):
    return [
        i for i in range(len(lower))
        if i + h < len(lower) and not (lower[i + h] - upper[i] >= h and upper[i + h] - lower[i] >= h)
    ]


def told_least(lower, upper):
    return next(h for h in range(100) if is_wide_enough(lower, upper, h))


def told_range(lower, upper, h):
    doing = [d for d in SHIFTS if is_wide_enough(lower, [a + d for a in upper], h)]
    if len(doing) == len(SHIFTS):
        return [2]
    return [1, doing[0], doing[-1]] if doing else [0]


def told_best(lower, upper):
    for h in range(100):
        told = told_range(lower, upper, h)
        if told != [0]:
            return [h] + told[1:]


def told_corners(lower, upper, i, h):
    b, a = lower[i], upper[i]
    if a == b:
        return [(b, 0), (b, h + 1)]
    if a > b:
        marks = [lower[i + k] - k for k in range(1, len(lower) - i)]
        between = sorted({c for c in marks if b < c < a})
    else:
        marks = [lower[i - k] + k for k in range(1, i + 1)]
        between = sorted({c for c in marks if a < c < b}, reverse=True)

    def height(x):
        return 1 + sum(1 for c in marks if (c <= x if a > b else c >= x))

    corners = [(b, 0), (b, height(b))]
    for c in between:
        corners.append((c, corners[-1][1]))
        corners.append((c, height(c)))
    corners.append((a, corners[-1][1]))
    corners.append((a, h + 1))
    return corners


def boxes(corners):
    """The straight pieces, each as least x, greatest x, least y, greatest y."""
    return [
        (min(x1, x2), max(x1, x2), min(y1, y2), max(y1, y2))
        for (x1, y1), (x2, y2) in zip(corners, corners[1:])
    ]


def meet(one, other):
    return any(
        p[0] <= q[1] and q[0] <= p[1] and p[2] <= q[3] and q[2] <= p[3]
        for p in boxes(one) for q in boxes(other)
    )


class AllSmall(unittest.TestCase):
    def test_widths(self):
        for lower, upper in small_nets():
            widths = list(range(len(lower) + 2))
            told = run(pins(lower, upper), LEAST, *[fits(h) for h in widths])
            expected = [[len(lower)], [told_least(lower, upper)]]
            for h in widths:
                narrow = narrow_nets(lower, upper, h)
                expected.append([0, narrow[0]] if narrow else [1])
            self.assertEqual(told, expected, (lower, upper))

    def test_shifts(self):
        for lower, upper in small_nets():
            widths = list(range(len(lower) + 2))
            told = run(pins(lower, upper), BEST, *[range_of(h) for h in widths])
            expected = [told_best(lower, upper)] + [told_range(lower, upper, h) for h in widths]
            self.assertEqual(told[1:], expected, (lower, upper))

    def wires(self, lower, upper, h):
        told = run(pins(lower, upper), *[wire(i, h) for i in range(len(lower))])[1:]
        for answer in told:
            self.assertEqual(len(answer), 1 + 2 * answer[0])
        return [list(zip(answer[1::2], answer[2::2])) for answer in told]

    def test_corners(self):
        for lower, upper in small_nets():
            least = told_least(lower, upper)
            for h in (least, least + 1):
                expected = [told_corners(lower, upper, i, h) for i in range(len(lower))]
                self.assertEqual(self.wires(lower, upper, h), expected, (lower, upper, h))

    def test_wires_stay_in_the_channel_and_apart(self):
        for lower, upper in small_nets():
            h = told_least(lower, upper)
            wires = self.wires(lower, upper, h)
            for b, a, corners in zip(lower, upper, wires):
                self.assertEqual((corners[0], corners[-1]), ((b, 0), (a, h + 1)))
                self.assertTrue(all(1 <= y <= h for x, y in corners[1:-1]), (lower, upper))
            for one, other in itertools.combinations(wires, 2):
                self.assertFalse(meet(one, other), (lower, upper))

    def test_too_narrow(self):
        for lower, upper in small_nets():
            for h in range(told_least(lower, upper)):
                told = run(pins(lower, upper), *[wire(i, h) for i in range(len(lower))])
                self.assertEqual(told[1:], [[-5]] * len(lower), (lower, upper, h))


if __name__ == "__main__":
    unittest.main()
