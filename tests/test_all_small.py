"""All small nets: what is answered beside what the words say, written down word by word."""

import itertools
import unittest

from lines import (
    BEST, LEAST, LIST, MIRROR, TURN, at, check, fits, flat, length, move, pins, range_of, room, route, run, track, wire,
)
from words import (
    PLACES, meet, narrow_nets, small_nets, told_at, told_best, told_corners, told_least, told_length, told_range,
    told_room, told_track, told_wires,
)


class AllSmall(unittest.TestCase):
    def test_widths(self):
        for lower, upper in small_nets():
            widths = list(range(len(lower) + 2))
            told = run(pins(lower, upper), LEAST, *[fits(h) for h in widths])
            expected = [[len(lower)], [told_least(lower, upper)]]
            for h in widths:
                narrow = narrow_nets(lower, upper, h)
                expected.append([0, narrow[0]] if narrow else [1])
            self.assertEqual(told, expected, (lower, upper))

    def test_shifts(self):
        for lower, upper in small_nets():
            widths = list(range(len(lower) + 2))
            told = run(pins(lower, upper), BEST, *[range_of(h) for h in widths])
            expected = [told_best(lower, upper)] + [told_range(lower, upper, h) for h in widths]
            self.assertEqual(told[1:], expected, (lower, upper))

    def wires(self, lower, upper, h):
        told = run(pins(lower, upper), *[wire(i, h) for i in range(len(lower))])[1:]
        for answer in told:
            self.assertEqual(len(answer), 1 + 2 * answer[0])
        return [list(zip(answer[1::2], answer[2::2])) for answer in told]

    def test_corners(self):
        for lower, upper in small_nets():
            least = told_least(lower, upper)
            for h in (least, least + 1):
                expected = [told_corners(lower, upper, i, h) for i in range(len(lower))]
                self.assertEqual(self.wires(lower, upper, h), expected, (lower, upper, h))

    def test_wires_stay_in_the_channel_and_apart(self):
        for lower, upper in small_nets():
            h = told_least(lower, upper)
            wires = self.wires(lower, upper, h)
            for b, a, corners in zip(lower, upper, wires):
                self.assertEqual((corners[0], corners[-1]), ((b, 0), (a, h + 1)))
                self.assertTrue(all(1 <= y <= h for x, y in corners[1:-1]), (lower, upper))
            for one, other in itertools.combinations(wires, 2):
                self.assertFalse(meet(one, other), (lower, upper))

    def test_too_narrow(self):
        for lower, upper in small_nets():
            for h in range(told_least(lower, upper)):
                told = run(pins(lower, upper), *[wire(i, h) for i in range(len(lower))])
                self.assertEqual(told[1:], [[-5]] * len(lower), (lower, upper, h))

    def test_too_narrow_for_the_calls_of_all_wires(self):
        for lower, upper in small_nets():
            for h in range(told_least(lower, upper)):
                told = run(pins(lower, upper), route(h), length(h), track(h, 1), track(h, h + 1), at(h, lower[0], 0))
                self.assertEqual(told[1:], [[-5]] * 5, (lower, upper, h))

    def test_routes_and_lengths(self):
        for lower, upper in small_nets():
            least = told_least(lower, upper)
            for h in (least, least + 1, 1000):
                wires = told_wires(lower, upper, h)
                expected = [len(wires)] + [number for corners in wires for number in flat(corners)]
                told = run(pins(lower, upper), route(h), length(h), check(h, *wires))
                self.assertEqual(told[1:], [expected, [told_length(wires)], [0]], (lower, upper, h))

    def test_tracks(self):
        for lower, upper in small_nets():
            least = told_least(lower, upper)
            for h in (least, least + 1):
                wires = told_wires(lower, upper, h)
                told = run(pins(lower, upper), *[track(h, y) for y in range(h + 2)])
                expected = [[-2]] + [told_track(wires, y) for y in range(1, h + 1)] + [[-2]]
                self.assertEqual(told[1:], expected, (lower, upper, h))

    def test_points(self):
        for lower, upper in small_nets():
            h = told_least(lower, upper)
            wires = told_wires(lower, upper, h)
            points = list(itertools.product(range(-1, PLACES + 1), range(-1, h + 3)))
            told = run(pins(lower, upper), *[at(h, x, y) for x, y in points])
            self.assertEqual(told[1:], [told_at(wires, x, y) for x, y in points], (lower, upper))

    def test_room(self):
        for lower, upper in small_nets():
            asked = list(itertools.product(range(len(lower)), range(len(lower) + 2)))
            told = run(pins(lower, upper), *[room(i, h) for i, h in asked])
            self.assertEqual(told[1:], [told_room(lower, upper, i, h) for i, h in asked], (lower, upper))

    def test_move(self):
        for lower, upper in small_nets():
            for i, a in itertools.product(range(len(lower)), range(-1, PLACES + 1)):
                moved = list(upper)
                moved[i] = a
                rises = moved == sorted(set(moved))
                row = moved if rises else upper
                nets = [len(lower)] + [pin for net in zip(lower, row) for pin in net]
                told = run(pins(lower, upper), move(i, a), LIST)
                self.assertEqual(told[1:], [[0] if rises else [-3], nets], (lower, upper, i, a))

    def test_turned_and_mirrored(self):
        for lower, upper in small_nets():
            low = [-pin for pin in reversed(lower)]
            high = [-pin for pin in reversed(upper)]
            for change, rows in ((TURN, (upper, lower)), (MIRROR, (low, high)), (TURN + MIRROR, (high, low))):
                expected = run(pins(*rows), LIST, LEAST, BEST, route(len(lower)), length(len(lower)))
                calls = [[call] for call in change]
                told = run(pins(lower, upper), *calls, LIST, LEAST, BEST, route(len(lower)), length(len(lower)))
                self.assertEqual(told[1:], [[0]] * len(calls) + expected[1:], (lower, upper))


if __name__ == "__main__":
    unittest.main()
