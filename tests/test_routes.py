"""The calls on all wires drawn: route, length, track, at (10, 11, 12, 13)."""

import unittest

from lines import (
    FURTHEST, LIST, MIRROR, TURN, add, at, away, flat, last, length, move, pins, route, rows_of, run, shift, track,
    wire,
)

GREATEST = 2147483647
NO_WIDTHS = (-1, 1001, -GREATEST - 1, GREATEST)

# All to the right, with steps; three tracks are just enough.
STEPS = pins([0, 4, 9], [10, 12, 14])
STEPS_WIRES = (
    [(0, 0), (0, 1), (3, 1), (3, 2), (7, 2), (7, 3), (10, 3), (10, 4)],
    [(4, 0), (4, 1), (8, 1), (8, 2), (12, 2), (12, 4)],
    [(9, 0), (9, 1), (14, 1), (14, 4)],
)

# One straight, one to the right, two to the left; one track is just enough.
MIXED = pins([0, 10, 20, 30], [0, 14, 17, 22])
MIXED_WIRES = (
    [(0, 0), (0, 2)],
    [(10, 0), (10, 1), (14, 1), (14, 2)],
    [(20, 0), (20, 1), (17, 1), (17, 2)],
    [(30, 0), (30, 1), (22, 1), (22, 2)],
)

NEAR = list(range(64))
FAR = [pin + 500 for pin in NEAR]


def told(wires):
    return [len(wires)] + [number for corners in wires for number in flat(corners)]


class Route(unittest.TestCase):
    def test_no_net(self):
        self.assertEqual(run(route(0), route(1), route(1000)), [[0], [0], [0]])

    def test_one_net(self):
        self.assertEqual(last(pins([7], [7]), route(0)), [1, 2, 7, 0, 7, 1])
        self.assertEqual(last(pins([7], [7]), route(1000)), [1, 2, 7, 0, 7, 1001])
        self.assertEqual(last(pins([7], [5]), route(1)), [1, 4, 7, 0, 7, 1, 5, 1, 5, 2])

    def test_all_wires_by_nets(self):
        self.assertEqual(last(STEPS, route(3)), told(STEPS_WIRES))
        self.assertEqual(last(MIXED, route(1)), told(MIXED_WIRES))

    def test_same_wires_as_one_by_one(self):
        answers = run(STEPS, wire(0, 7), wire(1, 7), wire(2, 7), route(7))
        self.assertEqual(answers[4], [3] + answers[1] + answers[2] + answers[3])

    def test_furthest_pins(self):
        far = FURTHEST
        self.assertEqual(last(pins([-far], [far]), route(1)), [1, 4, -far, 0, -far, 1, far, 1, far, 2])
        self.assertEqual(
            last(pins([-far, far], [-far, far]), route(0)), [2, 2, -far, 0, -far, 1, 2, far, 0, far, 1]
        )

    def test_sixty_four(self):
        right = [[(k, 0), (k, 64 - k), (k + 500, 64 - k), (k + 500, 65)] for k in NEAR]
        left = [[(k + 500, 0), (k + 500, k + 1), (k, k + 1), (k, 65)] for k in NEAR]
        self.assertEqual(run(pins(NEAR, FAR), route(64), route(63))[1:], [told(right), [-5]])
        self.assertEqual(run(pins(FAR, NEAR), route(64), route(63))[1:], [told(left), [-5]])

    def test_forty_in_one_line(self):
        row = rows_of(64)[0]
        answers = run(pins(row, row), *[route(h) for h in range(961, 1001)])
        self.assertEqual(answers[-1], told([[(x, 0), (x, 1001)] for x in row]))
        self.assertEqual(answers[1], told([[(x, 0), (x, 962)] for x in row]))


class Length(unittest.TestCase):
    def test_no_net_and_one_net(self):
        self.assertEqual(run(length(0), length(1000)), [[0], [0]])
        self.assertEqual(run(pins([7], [7]), length(0), length(1), length(1000))[1:], [[1], [2], [1001]])
        self.assertEqual(run(pins([7], [4]), length(1), length(1000))[1:], [[5], [1004]])

    def test_sum_of_all(self):
        self.assertEqual(run(STEPS, length(3), length(4))[1:], [[14 + 12 + 9], [15 + 13 + 10]])
        self.assertEqual(run(MIXED, length(1), length(9))[1:], [[2 + 6 + 5 + 10], [10 + 14 + 13 + 18]])

    def test_furthest_pins(self):
        self.assertEqual(last(pins([-FURTHEST], [FURTHEST]), length(1)), [2 * FURTHEST + 2])
        lower = [k - FURTHEST for k in range(64)]
        upper = [FURTHEST - 63 + k for k in range(64)]
        self.assertEqual(last(pins(lower, upper), length(64)), [64 * (2 * FURTHEST - 63 + 65)])
        self.assertEqual(last(pins(upper, lower), length(1000)), [64 * (2 * FURTHEST - 63 + 1001)])


class Track(unittest.TestCase):
    def test_pieces_by_nets(self):
        answers = run(STEPS, track(3, 1), track(3, 2), track(3, 3))
        self.assertEqual(answers[1:], [[3, 0, 0, 3, 1, 4, 8, 2, 9, 14], [2, 0, 3, 7, 1, 8, 12], [1, 0, 7, 10]])

    def test_least_x_first_also_to_the_left(self):
        self.assertEqual(last(MIXED, track(1, 1)), [3, 1, 10, 14, 2, 17, 20, 3, 22, 30])

    def test_wires_that_only_cross_the_track(self):
        self.assertEqual(last(MIXED, track(2, 2)), [0])
        self.assertEqual(run(pins([7], [7]), track(1, 1), track(1000, 1000))[1:], [[0], [0]])

    def test_no_net(self):
        self.assertEqual(run(track(1, 1), track(1000, 1), track(1000, 1000)), [[0], [0], [0]])

    def test_first_and_last_track_and_one_beyond(self):
        answers = run(STEPS, track(3, 0), track(3, 1), track(3, 3), track(3, 4))
        self.assertEqual([answer[0] for answer in answers[1:]], [-2, 3, 1, -2])
        answers = run(STEPS, track(1000, 1000), track(1000, 1001), track(1000, -1), track(1000, 4))
        self.assertEqual(answers[1:], [[0], [-2], [-2], [0]])
        for y in (GREATEST, -GREATEST - 1):
            self.assertEqual(last(STEPS, track(3, y)), [-2])

    def test_no_track_at_all(self):
        self.assertEqual(run(track(0, 0), track(0, 1), track(0, -1)), [[-2], [-2], [-2]])
        self.assertEqual(run(pins([7], [7]), track(0, 0), track(0, 1))[1:], [[-2], [-2]])

    def test_sixty_four(self):
        answers = run(pins(NEAR, FAR), *[track(64, y) for y in range(1, 65)])
        self.assertEqual(answers[1:], [[1, 64 - y, 64 - y, 564 - y] for y in range(1, 65)])

    def test_furthest_pins(self):
        self.assertEqual(last(pins([FURTHEST], [-FURTHEST]), track(1, 1)), [1, 0, -FURTHEST, FURTHEST])

    def test_too_narrow_comes_ahead_of_a_wrong_track(self):
        answers = run(STEPS, track(2, 0), track(2, 3), track(0, 0), track(2, 1), track(1001, 1), track(-1, 0))
        self.assertEqual(answers[1:], [[-5], [-5], [-5], [-5], [-2], [-2]])


class At(unittest.TestCase):
    def having(self, rows, h, points):
        """The net that has each point, None where no wire has it."""
        answers = run(rows, *[at(h, x, y) for x, y in points])[1:]
        for answer in answers:
            self.assertIn((len(answer), answer[0]), ((1, 0), (2, 1)))
        return [answer[1] if len(answer) == 2 else None for answer in answers]

    def test_corners(self):
        for rows, h, wires in ((STEPS, 3, STEPS_WIRES), (MIXED, 1, MIXED_WIRES)):
            for net, corners in enumerate(wires):
                self.assertEqual(self.having(rows, h, corners), [net] * len(corners))

    def test_within_a_piece(self):
        points = [(5, 2), (9, 3), (6, 1), (10, 2), (12, 3), (13, 1), (14, 2), (14, 3)]
        self.assertEqual(self.having(STEPS, 3, points), [0, 0, 1, 1, 1, 2, 2, 2])
        self.assertEqual(self.having(MIXED, 1, [(0, 1), (12, 1), (18, 1), (25, 1)]), [0, 1, 2, 3])

    def test_just_beside(self):
        points = [
            (-1, 0), (1, 0), (0, -1), (0, 2), (-1, 1), (2, 2), (6, 3), (11, 3), (8, 0), (10, 5), (9, 4), (11, 4),
            (3, 0), (5, 0), (15, 1), (13, 2), (14, 5), (14, 0), (0, 4), (13, 4), (15, 4), (3, 3),
        ]
        self.assertEqual(self.having(STEPS, 3, points), [None] * len(points))
        points = [(1, 1), (9, 1), (15, 1), (16, 1), (21, 1), (31, 1), (17, 0), (20, 2), (30, 2), (22, 0), (22, 3)]
        self.assertEqual(self.having(MIXED, 1, points), [None] * len(points))

    def test_pins(self):
        points = [(7, 0), (7, 1), (7, 2), (7, -1), (6, 0), (8, 1)]
        self.assertEqual(self.having(pins([7], [7]), 0, points), [0, 0, None, None, None, None])
        far = FURTHEST
        points = [(-far, 0), (far, 2), (0, 1), (-far - 1, 1), (far + 1, 1), (far, 0), (-far, 2)]
        self.assertEqual(self.having(pins([-far], [far]), 1, points), [0, 0, 0, None, None, None, None])

    def test_no_net_and_points_far_away(self):
        self.assertEqual(run(at(0, 0, 0), at(1000, 5, 7)), [[0], [0]])
        far = [(x, y) for x in (GREATEST, -GREATEST - 1, 0) for y in (GREATEST, -GREATEST - 1)]
        self.assertEqual(self.having(MIXED, 1, far), [None] * 6)

    def test_sixty_four(self):
        points = [(k + 1, 64 - k) for k in NEAR]
        self.assertEqual(self.having(pins(NEAR, FAR), 64, points), NEAR)


class Refusals(unittest.TestCase):
    def calls(self, h):
        return [route(h), length(h), track(h, 1), at(h, 0, 0)]

    def test_no_such_width(self):
        for h in NO_WIDTHS:
            with self.subTest(h=h):
                self.assertEqual(run(*self.calls(h)), [[-2]] * 4)
                self.assertEqual(run(STEPS, *self.calls(h), LIST)[1:], [[-2]] * 4 + [[3, 0, 10, 4, 12, 9, 14]])

    def test_one_track_less_than_needed(self):
        self.assertEqual(run(STEPS, *self.calls(2), LIST)[1:], [[-5]] * 4 + [[3, 0, 10, 4, 12, 9, 14]])
        self.assertEqual(run(MIXED, *self.calls(0))[1:], [[-5]] * 4)

    def test_least_and_greatest_width(self):
        for h in (3, 1000):
            self.assertTrue(all(answer[0] >= 0 for answer in run(STEPS, *self.calls(h))))

    def test_nets_as_they_are_then(self):
        answers = run(
            MIXED, length(1), at(1, 14, 2), move(1, 12), length(1), at(1, 14, 2), away(0), at(1, 12, 2),
            shift(10), length(1), length(3), add(-5, -5), TURN, route(3), MIRROR, route(3),
        )
        self.assertEqual(answers[1:7], [[23], [1, 1], [0], [21], [0], [0]])
        self.assertEqual(answers[7:13], [[1, 0], [0], [-5], [12 + 7 + 2 + 3 * 4], [0], [0]])
        turned = [
            [(-5, 0), (-5, 4)], [(22, 0), (22, 1), (10, 1), (10, 4)],
            [(27, 0), (27, 1), (23, 1), (23, 2), (20, 2), (20, 4)], [(32, 0), (32, 1), (30, 1), (30, 4)],
        ]
        self.assertEqual(answers[13], told(turned))
        mirrored = [[(-x, y) for x, y in corners] for corners in reversed(turned)]
        self.assertEqual(answers[14:], [[0], told(mirrored)])


if __name__ == "__main__":
    unittest.main()
