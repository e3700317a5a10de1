"""The calls that tell widths and shifts: least, fits, range, best (4, 5, 6, 7)."""

import unittest

from lines import BEST, FURTHEST, LEAST, LIST, fits, last, pins, range_of, rows_of, run, shift

NO_WIDTHS = (-1, 1001, -2147483648, 2147483647)


class Least(unittest.TestCase):
    def test_no_net_and_one_net(self):
        self.assertEqual(run(LEAST), [[0]])
        self.assertEqual(last(pins([4], [4]), LEAST), [0])
        self.assertEqual(last(pins([4], [5]), LEAST), [1])
        self.assertEqual(last(pins([4], [3]), LEAST), [1])

    def test_right_and_left(self):
        # One track does up to a lower pin of the next net that's one further than the upper pin.
        self.assertEqual(last(pins([0, 4], [3, 9]), LEAST), [1])
        self.assertEqual(last(pins([0, 4], [4, 9]), LEAST), [2])
        self.assertEqual(last(pins([0, 6], [-5, 1]), LEAST), [1])
        self.assertEqual(last(pins([0, 6], [-5, 0]), LEAST), [2])

    def test_one_net_that_bends_among_straight_ones(self):
        self.assertEqual(last(pins([0, 10, 20], [0, 11, 20]), LEAST), [1])

    def test_sixty_four(self):
        row = rows_of(64)[0]
        far = [FURTHEST - 630 + pin for pin in row]
        self.assertEqual(last(pins(row, row), LEAST), [0])
        self.assertEqual(last(pins(row, far), LEAST), [64])
        self.assertEqual(last(pins(far, row), LEAST), [64])

    def test_steps(self):
        self.assertEqual(last(pins([0, 1, 2], [5, 6, 7]), LEAST), [3])
        self.assertEqual(last(pins([0, 4, 12], [10, 12, 14]), LEAST), [2])
        self.assertEqual(last(pins([0, 4, 11], [10, 12, 14]), LEAST), [3])


class Fits(unittest.TestCase):
    def test_none_and_one(self):
        self.assertEqual(run(fits(0), fits(1), fits(1000)), [[1], [1], [1]])
        self.assertEqual(run(pins([4], [5]), fits(0), fits(1), fits(1000))[1:], [[0, 0], [1], [1]])
        self.assertEqual(run(pins([4], [4]), fits(0))[1:], [[1]])

    def test_least_net(self):
        rows = pins([0, 10, 20, 30, 40], [0, 10, 29, 32, 41])
        self.assertEqual(run(rows, fits(0), fits(1))[1:], [[0, 2], [1]])
        rows = pins([0, 10, 20, 30, 40], [0, 10, 30, 40, 41])
        self.assertEqual(run(rows, fits(1), fits(2), fits(3))[1:], [[0, 2], [1], [1]])
        # To the left it's the net further on that bends, and the one before it that's told.
        rows = pins([0, 10, 20, 30], [0, 10, 11, 20])
        self.assertEqual(run(rows, fits(0), fits(1), fits(2))[1:], [[0, 2], [0, 2], [1]])

    def test_refused(self):
        for h in NO_WIDTHS:
            with self.subTest(h=h):
                self.assertEqual(run(fits(h), pins([0], [0]), fits(h), LIST), [[-2], [1], [-2], [1, 0, 0]])


class RangeOf(unittest.TestCase):
    def test_all_shifts(self):
        self.assertEqual(run(range_of(0), range_of(1000)), [[2], [2]])
        self.assertEqual(run(pins([4], [9]), range_of(1), range_of(1000))[1:], [[2], [2]])
        row = rows_of(64)[0]
        self.assertEqual(run(pins(row, row), range_of(63), range_of(64))[1:], [[1, -567, 567], [2]])

    def test_one_shift_some_and_none(self):
        self.assertEqual(last(pins([4], [9]), range_of(0)), [1, -5, -5])
        self.assertEqual(last(pins([0, 6], [1, 7]), range_of(0)), [1, -1, -1])
        self.assertEqual(last(pins([0, 6], [1, 8]), range_of(0)), [0])
        # d is at least 1 + 0 - 8, and at most 6 - 1 - 1.
        self.assertEqual(last(pins([0, 6], [1, 8]), range_of(1)), [1, -7, 4])
        self.assertEqual(last(pins([0, 1, 9], [0, 8, 9]), range_of(1)), [1, -7, 0])
        self.assertEqual(last(pins([0, 1, 9], [7, 15, 16]), range_of(1)), [1, -14, -7])
        self.assertEqual(last(pins([0, 1, 9], [0, 1, 30]), range_of(1)), [1, 0, 0])
        self.assertEqual(last(pins([0, 1, 2], [0, 9, 10]), range_of(1)), [1, -8, -8])
        # Nets 0 and 1 ask that d is at least 0, nets 2 and 3 that it is at most -8.
        self.assertEqual(last(pins([0, 1, 2, 3], [0, 1, 10, 11]), range_of(1)), [0])

    def test_pins_may_be_shifted_out_of_range(self):
        told = run(pins([-FURTHEST, 0], [0, FURTHEST]), range_of(1))
        self.assertEqual(told[1], [1, 1 - 2 * FURTHEST, -1])
        told = run(pins([0, FURTHEST], [-1, 0]), range_of(1))
        self.assertEqual(told[1], [1, 1, FURTHEST])
        self.assertEqual(last(pins([FURTHEST], [-FURTHEST]), range_of(0)), [1, 2 * FURTHEST, 2 * FURTHEST])

    def test_refused(self):
        for h in NO_WIDTHS:
            with self.subTest(h=h):
                self.assertEqual(run(range_of(h), pins([0], [0]), range_of(h)), [[-2], [1], [-2]])

    def test_nothing_is_shifted(self):
        self.assertEqual(last(pins([0, 6], [1, 8]), range_of(1), BEST, LEAST, fits(1), LIST), [2, 0, 1, 6, 8])


class Best(unittest.TestCase):
    def test_no_net_has_no_bounds(self):
        self.assertEqual(run(BEST), [[0]])

    def test_one_net(self):
        self.assertEqual(last(pins([4], [9]), BEST), [0, -5, -5])
        self.assertEqual(last(pins([FURTHEST], [-FURTHEST]), BEST), [0, 2 * FURTHEST, 2 * FURTHEST])

    def test_wider_and_wider(self):
        self.assertEqual(last(pins([0, 6], [1, 7]), BEST), [0, -1, -1])
        self.assertEqual(last(pins([0, 6], [1, 8]), BEST), [1, -7, 4])
        self.assertEqual(last(pins([0, 1, 2], [0, 9, 10]), BEST), [1, -8, -8])
        self.assertEqual(last(pins([0, 1, 2, 3], [0, 1, 10, 11]), BEST), [2, -8, 0])

    def test_sixty_four(self):
        near = list(range(64))
        wide = [1000 * k for k in range(64)]
        # The first pair asks for d >= -999 * h, the last one for d <= -999 * (63 - h).
        self.assertEqual(run(pins(near, wide), BEST, range_of(31))[1:], [[32, -31968, -30969], [0]])

    def test_after_a_shift(self):
        self.assertEqual(last(pins([0, 6], [1, 8]), shift(4), BEST), [1, -11, 0])


if __name__ == "__main__":
    unittest.main()
