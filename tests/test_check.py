"""The call check (14): drawings of any hand, what is wrong of them, and rows that can't be read."""

import itertools
import random
import unittest

from lines import (
    FURTHEST, LEAST, LIST, MIRROR, TURN, away, check, check_row, last, move, pins, route, rows_of, run, shift,
)
from words import told_wires, told_wrong

GREATEST = 2147483647
LEAST_NUMBER = -2147483648
NO_WIDTHS = (-1, 1001, LEAST_NUMBER, GREATEST)


def straight(x, h):
    return [(x, 0), (x, h + 1)]


def bent(b, y, a, h):
    return [(b, 0), (b, y), (a, y), (a, h + 1)]


class OwnDrawings(unittest.TestCase):
    def check_own(self, rows, h):
        drawn = last(rows, route(h))
        self.assertEqual(last(rows, check_row(h, drawn[1:])), [0])

    def test_drawn_by_the_program(self):
        self.check_own(pins([], []), 0)
        self.check_own(pins([], []), 1000)
        self.check_own(pins([5], [5]), 0)
        self.check_own(pins([5], [9]), 1000)
        self.check_own(pins([0, 4, 9], [10, 12, 14]), 3)
        self.check_own(pins([0, 10, 20, 30], [0, 14, 17, 22]), 1)
        self.check_own(pins([-FURTHEST, FURTHEST], [-1, 0]), 1)

    def test_sixty_four(self):
        near = list(range(64))
        wide = [30 * k for k in range(64)]
        for h in (64, 1000):
            self.check_own(pins(near, wide), h)
            self.check_own(pins(wide, near), h)
            self.check_own(pins(wide, [pin + 7000 for pin in near]), h)

    def test_drawn_for_another_width_or_other_nets(self):
        rows = pins([0, 4, 9], [10, 12, 14])
        drawn = last(rows, route(4))[1:]
        answers = run(
            rows, check_row(4, drawn), check_row(3, drawn), check_row(5, drawn), move(1, 11), check_row(4, drawn),
            move(1, 12), shift(1), check_row(4, drawn), shift(-1), check_row(4, drawn), away(1), check_row(4, drawn),
        )
        self.assertEqual(answers[1:6], [[0], [2, 0], [2, 0], [0], [2, 1]])
        self.assertEqual(answers[6:], [[0], [0], [2, 0], [0], [0], [0], [1]])

    def test_after_turn_and_mirror(self):
        wires = told_wires([0, 10], [0, 14], 2)
        mirrored = [[(-x, y) for x, y in corners] for corners in reversed(wires)]
        turned = [[(x, 3 - y) for x, y in reversed(corners)] for corners in wires]
        answers = run(
            pins([0, 10], [0, 14]), check(2, *wires), TURN, check(2, *wires), check(2, *turned),
            TURN, MIRROR, check(2, *wires), check(2, *mirrored),
        )
        self.assertEqual(answers[1:], [[0], [0], [2, 1], [0], [0], [0], [2, 0], [0]])


class HowManyWires(unittest.TestCase):
    def test_empty_row(self):
        self.assertEqual(run(check(0), check(1000)), [[0], [0]])
        self.assertEqual(run(pins([5], [5]), check(0), LIST)[1:], [[1], [1, 5, 5]])

    def test_fewer_and_more(self):
        rows = pins([0, 10], [0, 10])
        answers = run(
            rows, check(1, straight(0, 1)), check(1, straight(0, 1), straight(10, 1)),
            check(1, straight(0, 1), straight(10, 1), straight(20, 1)), check(1, straight(0, 1), straight(10, 1), []),
        )
        self.assertEqual(answers[1:], [[1], [0], [1], [1]])
        self.assertEqual(run(check(1, straight(0, 1)), check_row(1, [0])), [[1], [1]])

    def test_ahead_of_all_else(self):
        rows = pins([0, 10], [0, 10])
        self.assertEqual(last(rows, check(1, [(0, 0)])), [1])
        self.assertEqual(last(rows, check(1, [(0, 0), (0, 7), (0, 2)])), [1])
        self.assertEqual(last(rows, check(1, straight(0, 1), straight(0, 1), straight(0, 1))), [1])

    def test_very_many(self):
        self.assertEqual(last(pins([0], [0]), check_row(1, [0] * 10000)), [1])
        self.assertEqual(run(check_row(1, [0] * 10000)), [[1]])


class Joins(unittest.TestCase):
    def check_bad(self, corners, h=3):
        """The wire doesn't join 10 and 14, whichever net's it is."""
        rows = pins([0, 10, 20], [0, 14, 20])
        self.assertEqual(last(rows, check(h, straight(0, h), corners, straight(20, h))), [2, 1], corners)

    def test_no_corner_and_one(self):
        self.check_bad([])
        self.check_bad([(10, 0)])
        self.check_bad([(14, 4)])

    def test_first_corner(self):
        good = bent(10, 2, 14, 3)
        self.assertEqual(last(pins([10], [14]), check(3, good)), [0])
        self.check_bad([(10, 1)] + good[1:])
        self.check_bad([(10, -1)] + good[1:])
        self.check_bad(good[1:])
        self.check_bad([(9, 0), (9, 2)] + good[2:])
        self.check_bad([(11, 0), (11, 2)] + good[2:])
        self.check_bad([(9, 0)] + good)

    def test_last_corner(self):
        good = bent(10, 2, 14, 3)
        self.check_bad(good[:-1])
        self.check_bad(good[:-1] + [(14, 3)])
        self.check_bad(good[:-1] + [(14, 5)])
        self.check_bad(good[:-2] + [(13, 2), (13, 4)])
        self.check_bad(good[:-2] + [(15, 2), (15, 4)])
        self.check_bad(good + [(15, 4)])

    def test_from_the_other_end(self):
        self.check_bad(list(reversed(bent(10, 2, 14, 3))))

    def test_corner_twice_running(self):
        good = bent(10, 2, 14, 3)
        for k in range(4):
            self.check_bad(good[:k] + [good[k]] + good[k:])

    def test_aslant(self):
        self.check_bad([(10, 0), (14, 4)])
        self.check_bad([(10, 0), (10, 1), (14, 2), (14, 4)])
        self.check_bad([(10, 0), (11, 1), (14, 1), (14, 4)])
        self.check_bad([(10, 0), (10, 1), (13, 1), (14, 4)])

    def test_first_net_of_several(self):
        rows = pins([0, 10, 20], [0, 10, 20])
        bad = [(0, 0)]
        good = [straight(x, 1) for x in (0, 10, 20)]
        for wrong in itertools.product((False, True), repeat=3):
            wires = [bad if is_wrong else wire for is_wrong, wire in zip(wrong, good)]
            expected = [2, wrong.index(True)] if any(wrong) else [0]
            self.assertEqual(last(rows, check(1, *wires)), expected)

    def test_ahead_of_tracks_and_meetings(self):
        rows = pins([0, 10, 20], [0, 10, 20])
        off_track = [(0, 0), (0, 2), (1, 2), (1, 1), (0, 1), (0, 2)]
        meeting = [(10, 0), (10, 1), (0, 1), (10, 1), (10, 2)]
        self.assertEqual(last(rows, check(1, off_track, meeting, [(20, 0)])), [2, 2])
        self.assertEqual(last(rows, check(1, off_track, meeting, straight(20, 1))), [3, 0])
        self.assertEqual(last(rows, check(1, straight(0, 1), meeting, straight(20, 1))), [4, 0, 1])

    def test_a_corner_that_goes_straight_on_is_no_fault(self):
        self.assertEqual(last(pins([5], [5]), check(2, [(5, 0), (5, 1), (5, 2), (5, 3)])), [0])
        self.assertEqual(last(pins([5], [8]), check(1, [(5, 0), (5, 1), (6, 1), (7, 1), (8, 1), (8, 2)])), [0])


class Tracks(unittest.TestCase):
    def check_height(self, h, y):
        return last(pins([5], [8]), check(h, bent(5, y, 8, h)))

    def test_heights(self):
        self.assertEqual([self.check_height(3, y) for y in (1, 2, 3)], [[0]] * 3)
        for y in (-1, 5, GREATEST, LEAST_NUMBER):
            self.assertEqual(self.check_height(3, y), [3, 0], y)
        # Here a corner would be there twice running.
        self.assertEqual([self.check_height(3, y) for y in (0, 4)], [[2, 0], [2, 0]])
        self.assertEqual(self.check_height(1000, 1000), [0])

    def test_along_the_rows_of_pins(self):
        self.assertEqual(last(pins([5], [8]), check(3, [(5, 0), (8, 0), (8, 4)])), [3, 0])
        self.assertEqual(last(pins([5], [8]), check(3, [(5, 0), (5, 4), (8, 4)])), [3, 0])
        self.assertEqual(last(pins([5], [8]), check(0, [(5, 0), (8, 0), (8, 1)])), [3, 0])

    def test_no_track(self):
        self.assertEqual(last(pins([5], [5]), check(0, [(5, 0), (5, 1)])), [0])
        self.assertEqual(last(pins([5], [5]), check(0, [(5, 0), (5, 1), (5, 0), (5, 1)])), [3, 0])

    def test_a_corner_among_many(self):
        corners = [(5, 0), (5, 1), (6, 1), (6, 3), (7, 3), (7, 2), (8, 2), (8, 4)]
        rows = pins([0, 5], [0, 8])
        self.assertEqual(last(rows, check(3, straight(0, 3), corners)), [0])
        for y in (0, 4):
            raised = [(x, y if k in (3, 4) else old) for k, (x, old) in enumerate(corners)]
            self.assertEqual(last(rows, check(3, straight(0, 3), raised)), [3, 1])

    def test_first_net_of_several_ahead_of_meetings(self):
        rows = pins([0, 10, 20], [0, 10, 20])
        wires = [[(x, 0), (x, 1), (20, 1), (x, 1), (x, 2)] for x in (0, 10)]
        high = [(20, 0), (20, 3), (20, 2)]
        self.assertEqual(last(rows, check(1, wires[0], wires[1], high)), [3, 2])
        low = [(10, 0), (10, -1), (10, 2)]
        self.assertEqual(last(rows, check(1, wires[0], low, high)), [3, 1])
        self.assertEqual(last(rows, check(1, wires[0], wires[1], straight(20, 1))), [4, 0, 1])


class Meetings(unittest.TestCase):
    def check_pair(self, one, other, h, expected):
        rows = pins([one[0][0], other[0][0]], [one[-1][0], other[-1][0]])
        self.assertEqual(last(rows, check(h, one, other)), expected)
        # The mirror's wires meet just as well, and come the other way round.
        mirrored = [[(-x, y) for x, y in corners] for corners in (other, one)]
        self.assertEqual(last(rows, MIRROR, check(h, *mirrored)), expected)

    def test_apart_by_one(self):
        self.check_pair(straight(0, 3), straight(1, 3), 3, [0])
        self.check_pair(bent(0, 2, 4, 3), bent(3, 1, 5, 3), 3, [0])
        self.check_pair(bent(0, 1, 3, 1), bent(4, 1, 9, 1), 1, [0])

    def test_one_point_only(self):
        # Corner upon corner.
        self.check_pair(bent(0, 1, 4, 1), bent(4, 1, 9, 1), 1, [4, 0, 1])
        self.check_pair(bent(0, 2, 4, 3), bent(4, 2, 9, 3), 3, [4, 0, 1])
        # A corner within an upright piece.
        self.check_pair([(0, 0), (0, 2), (5, 2), (0, 2), (0, 4)], straight(5, 3), 3, [4, 0, 1])
        self.check_pair([(0, 0), (0, 2), (4, 2), (0, 2), (0, 4)], straight(5, 3), 3, [0])
        # A corner within a piece that goes along: the other wire comes down to it and goes up again.
        down = [(9, 0), (9, 3), (4, 3), (4, 2), (4, 3), (10, 3), (10, 4)]
        self.check_pair(bent(0, 2, 8, 3), [(9, 0), (9, 1), (9, 3), (10, 3), (10, 4)], 3, [0])
        self.check_pair([(0, 0), (0, 2), (6, 2), (0, 2), (0, 4)], down, 3, [4, 0, 1])
        self.check_pair([(0, 0), (0, 1), (6, 1), (0, 1), (0, 4)], down, 3, [0])

    def test_crossing(self):
        self.check_pair(bent(0, 2, 6, 3), bent(3, 1, 8, 3), 3, [0])
        self.check_pair(bent(0, 1, 6, 3), bent(3, 2, 8, 3), 3, [4, 0, 1])
        self.check_pair([(0, 0), (0, 2), (9, 2), (9, 1), (0, 1), (0, 4)], straight(5, 3), 3, [4, 0, 1])

    def test_along_one_another(self):
        self.check_pair(bent(0, 2, 6, 3), bent(4, 2, 9, 3), 3, [4, 0, 1])
        self.check_pair([(0, 0), (0, 1), (5, 1), (5, 3), (0, 3), (0, 4)], straight(5, 3), 3, [4, 0, 1])
        # Two upright pieces of one x, end upon end and one apart.
        one = [(0, 0), (0, 1), (5, 1), (5, 2), (0, 2), (0, 1), (0, 5)]
        for low, expected in ((2, [4, 0, 1]), (3, [0])):
            self.check_pair(one, [(9, 0), (9, low), (5, low), (5, 4), (9, 4), (9, 5)], 4, expected)
        # The same of two pieces of one y.
        for left, expected in ((5, [4, 0, 1]), (6, [0])):
            other = [(9, 0), (9, 1), (left, 1), (9, 1), (9, 2)]
            self.check_pair([(0, 0), (0, 1), (5, 1), (0, 1), (0, 2)], other, 1, expected)

    def test_within_another(self):
        wide = [(0, 0), (0, 1), (8, 1), (0, 1), (0, 4)]
        narrow = [(9, 0), (9, 2), (5, 2), (5, 1), (3, 1), (3, 2), (9, 2), (9, 4)]
        self.check_pair(wide, narrow, 3, [4, 0, 1])
        self.check_pair(wide, [(x, y + 1 if 0 < y < 4 else y) for x, y in narrow], 3, [0])

    def test_a_wire_may_meet_itself(self):
        loop = [(0, 0), (0, 2), (3, 2), (3, 1), (-2, 1), (-2, 3), (0, 3), (0, 1), (0, 4)]
        self.check_pair(loop, straight(4, 3), 3, [0])
        self.check_pair(loop, straight(3, 3), 3, [4, 0, 1])

    def test_which_two(self):
        rows = pins([0, 10, 20, 30], [0, 10, 20, 30])
        # Each wire has a track of its own, where it reaches out as far as it is told.
        for reach in itertools.product((0, 10, 20, 30), repeat=4):
            wires = [
                [(10 * k, 0), (10 * k, k + 1), (to, k + 1), (10 * k, k + 1), (10 * k, 5)]
                for k, to in enumerate(reach) if to != 10 * k
            ]
            if len(wires) == 4:
                self.assertEqual(last(rows, check(4, *wires)), told_wrong(*[[0, 10, 20, 30]] * 2, 4, wires))

    def test_least_lesser_number_first(self):
        rows = pins([0, 10, 20, 30], [0, 10, 20, 30])
        wires = [straight(x, 4) for x in (0, 10, 20, 30)]
        wires[2] = [(20, 0), (20, 1), (10, 1), (20, 1), (20, 5)]
        self.assertEqual(last(rows, check(4, *wires)), [4, 1, 2])
        wires = [
            [(0, 0), (0, 4), (40, 4), (0, 4), (0, 5)], [(10, 0), (10, 1), (20, 1), (10, 1), (10, 5)],
            straight(20, 4), straight(30, 4),
        ]
        self.assertEqual(last(rows, check(4, *wires)), [4, 0, 1])
        wires = [straight(0, 4), straight(10, 4), straight(20, 4), [(30, 0), (30, 1), (0, 1), (30, 1), (30, 5)]]
        self.assertEqual(last(rows, check(4, *wires)), [4, 0, 3])
        # 1 and 2 meet now, and have a lesser greater number than 0 and 3.
        wires[1] = [(10, 0), (10, 2), (20, 2), (10, 2), (10, 5)]
        self.assertEqual(last(rows, check(4, *wires)), [4, 0, 3])

    def test_least_greater_number_then(self):
        rows = pins([0, 10, 20, 30], [0, 10, 20, 30])
        wires = [[(0, 0), (0, 1), (30, 1), (0, 1), (0, 5)]] + [straight(x, 4) for x in (10, 20, 30)]
        self.assertEqual(last(rows, check(4, *wires)), [4, 0, 1])

    def test_last_two_of_sixty_four(self):
        row = rows_of(64)[0]
        wires = [straight(x, 1) for x in row]
        wires[63] = [(630, 0), (630, 1), (620, 1), (630, 1), (630, 2)]
        self.assertEqual(last(pins(row, row), check(1, *wires)), [4, 62, 63])
        wires[63] = [(630, 0), (630, 1), (621, 1), (630, 1), (630, 2)]
        self.assertEqual(last(pins(row, row), check(1, *wires)), [0])

    def test_very_large_numbers(self):
        right = [(5, 0), (5, 1), (GREATEST, 1), (GREATEST, 2), (5, 2), (5, 3)]
        left = [(0, 0), (0, 1), (LEAST_NUMBER, 1), (LEAST_NUMBER, 2), (0, 2), (0, 3)]
        rows = pins([0, 5], [0, 5])
        self.assertEqual(last(rows, check(2, left, right)), [0])
        self.assertEqual(last(rows, check(2, left, [(5, 0), (5, 1), (LEAST_NUMBER, 1), (5, 1), (5, 3)])), [4, 0, 1])
        self.assertEqual(last(rows, check(2, left, [(5, 0), (5, GREATEST), (6, GREATEST), (6, 3), (5, 3)])), [3, 1])
        self.assertEqual(last(rows, check(2, [(GREATEST, LEAST_NUMBER)], right)), [2, 0])
        far = pins([-FURTHEST, FURTHEST], [-FURTHEST, FURTHEST])
        wires = [straight(-FURTHEST, 1000), straight(FURTHEST, 1000)]
        self.assertEqual(last(far, check(1000, *wires)), [0])

    def test_channel_that_is_not_wide_enough(self):
        rows = pins([0, 4], [4, 9])
        wires = [bent(0, 1, 4, 1), bent(4, 1, 9, 1)]
        answers = run(rows, LEAST, check(1, *wires), check(0, straight(0, 0), straight(4, 0)))
        self.assertEqual(answers[1:], [[2], [4, 0, 1], [2, 0]])


class AsTheWordsSay(unittest.TestCase):
    def pool(self, b, a, h, places):
        """Wires from b to a of up to three pieces along, between places 0 and the last one; good and bad ones."""
        tracks = range(1, h + 1)
        wires = [straight(b, h)] if a == b else []
        wires += [bent(b, y, a, h) for y in tracks if a != b]
        for y, z in itertools.permutations(tracks, 2):
            for x in range(places):
                if x not in (a, b):
                    wires.append([(b, 0), (b, y), (x, y), (x, z), (a, z), (a, h + 1)])
        for y in tracks:
            for x in range(places):
                if x not in (a, b):
                    wires.append([(b, 0), (b, y), (x, y), (a, y), (a, h + 1)])
        return wires

    def test_all_pairs_of_small_wires(self):
        h, places = 3, 5
        for lower, upper in (((1, 3), (1, 3)), ((1, 2), (2, 3)), ((2, 3), (0, 4)), ((0, 4), (2, 3))):
            pools = [self.pool(b, a, h, places) for b, a in zip(lower, upper)]
            for drawings in batches(itertools.product(*pools), 100):
                expected = [told_wrong(lower, upper, h, wires) for wires in drawings]
                told = run(pins(lower, upper), *[check(h, *wires) for wires in drawings])
                self.assertEqual(told[1:], expected)

    def test_many_drawings(self):
        source = random.Random(20261116)
        kinds = set()
        for turn in range(1500):
            size = source.randint(1, 5)
            h = source.randint(1, 5)
            lower = sorted(source.sample(range(12), size))
            upper = sorted(source.sample(range(12), size))
            wires = [rambling(source, b, a, h) for b, a in zip(lower, upper)]
            if source.random() < 0.1:
                spoil(source, wires)
            expected = told_wrong(lower, upper, h, wires)
            kinds.add(expected[0])
            self.assertEqual(last(pins(lower, upper), check(h, *wires)), expected, (lower, upper, h, wires))
        self.assertEqual(kinds, {0, 1, 2, 3, 4})


def batches(things, size):
    things = list(things)
    return [things[k:k + size] for k in range(0, len(things), size)]


def rambling(source, b, a, h):
    """A wire from b to a with some turns on its way."""
    corners = [(b, 0)]
    x = b
    y = 0
    for k in range(source.randint(0, 2)):
        y = source.choice([z for z in range(1, h + 1) if z != y] or [y])
        to = source.choice([z for z in (x - 2, x - 1, x + 1, x + 2)])
        corners += [(x, y), (to, y)]
        x = to
    if x != a:
        y = source.randint(1, h)
        corners += [(x, y), (a, y)]
    corners.append((a, h + 1))
    return [corner for k, corner in enumerate(corners) if k == 0 or corner != corners[k - 1]]


def spoil(source, wires):
    k = source.randrange(len(wires))
    way = source.randrange(3)
    if way == 0:
        wires.pop(k)
    elif way == 1:
        wires[k] = wires[k][:-1]
    else:
        wires[k] = [wires[k][0], (wires[k][0][0], -1)] + wires[k][1:]


class Rows(unittest.TestCase):
    rows = pins([5], [5])

    def check_unreadable(self, row):
        self.assertEqual(run(self.rows, check_row(1, row), LIST)[1:], [[-3], [1, 5, 5]], row)
        self.assertEqual(run(check_row(1, row), LIST), [[-3], [0]], row)

    def test_count_below_0(self):
        for count in (-1, -2, LEAST_NUMBER):
            self.check_unreadable([count])
            self.check_unreadable([count, 5, 0, 5, 2])
            self.check_unreadable([2, 5, 0, 5, 2, count])
            self.check_unreadable([0, 0, 0, count, 0])

    def test_row_ends_before_its_corners_do(self):
        for row in ([1], [1, 5], [2, 5, 0], [2, 5, 0, 5], [3, 5, 0, 5, 2], [GREATEST], [GREATEST, 5, 0, 5, 2]):
            self.check_unreadable(row)
            self.check_unreadable([2, 5, 0, 5, 2] + row)
            self.check_unreadable([0] + row)

    def test_row_ends_with_its_corners(self):
        answers = run(self.rows, check_row(1, [2, 5, 0, 5, 2]), check_row(1, [0]), check_row(1, [1, 5, 0]), LIST)
        self.assertEqual(answers[1:], [[0], [2, 0], [2, 0], [1, 5, 5]])

    def test_number_left_over_is_the_next_count(self):
        self.assertEqual(last(self.rows, check_row(1, [2, 5, 0, 5, 2, 0])), [1])
        self.assertEqual(last(self.rows, check_row(1, [1, 5, 0, 5, 2])), [-3])

    def test_no_such_width(self):
        for h in NO_WIDTHS:
            for row in ([], [2, 5, 0, 5, 2], [-1], [3, 5], [0, 0]):
                self.assertEqual(run(self.rows, check_row(h, row), LIST)[1:], [[-2], [1, 5, 5]])

    def test_longest_row(self):
        # Up and down beside one another, 2498 times, all within one net's reach.
        corners = [(5, 0)]
        for k in range(2498):
            corners += [(5 + k, 1 + 999 * (k % 2)), (6 + k, 1 + 999 * (k % 2))]
        corners.append((2503, 1001))
        rows = pins([5], [2503])
        row = [len(corners)] + [number for corner in corners for number in corner]
        self.assertEqual(len(row), 9997)
        self.assertEqual(last(rows, check_row(1000, row)), [0])
        self.assertEqual(last(rows, check_row(1000, row + [0, 0, 0])), [1])
        self.assertEqual(last(rows, check_row(1000, row + [0, 0, 1])), [-3])


if __name__ == "__main__":
    unittest.main()
