"""The calls that tell and change the nets: pins, add, away, list, shift (0, 1, 2, 3, 8)."""

import unittest

from lines import FURTHEST, LIST, add, away, last, pins, rows_of, run, shift


class Pins(unittest.TestCase):
    def test_nets_are_those_from_now_on(self):
        told = run(pins([1, 4], [-2, 9]), LIST, pins([7], [3]), LIST, pins([], []), LIST)
        self.assertEqual(told, [[2], [2, 1, -2, 4, 9], [1], [1, 7, 3], [0], [0]])

    def test_sixty_four_and_one_more(self):
        row64 = list(range(64))
        row65 = list(range(65))
        self.assertEqual(last(pins(row64, row64)), [64])
        self.assertEqual(run(pins([5], [6]), pins(row65, row65), LIST), [[1], [-3], [1, 5, 6]])
        many = list(range(10000))
        self.assertEqual(run(pins(many, many), LIST), [[-3], [0]])

    def test_furthest_pins(self):
        ends = [-FURTHEST, FURTHEST]
        told = run(pins(ends, ends), LIST)
        self.assertEqual(told, [[2], [2, -FURTHEST, -FURTHEST, FURTHEST, FURTHEST]])

    def test_refused_rows(self):
        bad = (
            ([1], []), ([], [1]), ([1, 2], [1]), ([1], [1, 2]),
            ([FURTHEST + 1], [0]), ([-FURTHEST - 1], [0]), ([0], [FURTHEST + 1]), ([0], [-FURTHEST - 1]),
            ([2147483647], [0]), ([0], [-2147483648]),
            ([1, 1], [1, 2]), ([1, 2], [1, 1]), ([2, 1], [1, 2]), ([1, 2], [2, 1]),
            ([1, 5, 9, 9], [1, 2, 3, 4]), ([1, 2, 3, 4], [1, 5, 4, 6]),
            ([0, FURTHEST + 1], [0, 1]), ([0, 1], [0, FURTHEST + 1]),
        )
        for lower, upper in bad:
            with self.subTest(lower=lower, upper=upper):
                self.assertEqual(run(pins([5], [6]), pins(lower, upper), LIST), [[1], [-3], [1, 5, 6]])


class Add(unittest.TestCase):
    def test_in_its_place(self):
        told = run(add(5, 50), add(9, 90), add(1, 10), add(7, 70), LIST)
        self.assertEqual(told, [[0], [1], [0], [2], [4, 1, 10, 5, 50, 7, 70, 9, 90]])

    def test_furthest_pins(self):
        told = run(add(-FURTHEST, FURTHEST), LIST, pins([], []), add(FURTHEST, -FURTHEST), LIST)
        self.assertEqual(told[1], [1, -FURTHEST, FURTHEST])
        self.assertEqual(told[4], [1, FURTHEST, -FURTHEST])

    def test_out_of_range(self):
        for b, a in ((FURTHEST + 1, 0), (-FURTHEST - 1, 0), (0, FURTHEST + 1), (0, -FURTHEST - 1)):
            with self.subTest(b=b, a=a):
                self.assertEqual(run(add(b, a), LIST), [[-2], [0]])

    def test_rows_that_would_not_rise(self):
        for b, a in ((5, 55), (6, 50), (9, 100), (6, 49), (4, 51), (6, 90), (6, 91), (10, 90), (1, 50)):
            with self.subTest(b=b, a=a):
                told = run(pins([5, 9], [50, 90]), add(b, a), LIST)
                self.assertEqual(told[1:], [[-3], [2, 5, 50, 9, 90]])

    def test_the_sixty_fourth_and_one_more(self):
        row = rows_of(63)[0]
        told = run(pins(row, row), add(5, 5), add(6, 6), LIST)
        self.assertEqual(told[:3], [[63], [1], [-4]])
        self.assertEqual(told[3], [64, 0, 0, 5, 5] + [pin for k in row[1:] for pin in (k, k)])

    def test_order_of_refusals(self):
        row = rows_of(64)[0]
        out_of_place = run(pins([5], [6]), add(5, FURTHEST + 1), add(FURTHEST + 1, 6))
        self.assertEqual(out_of_place, [[1], [-2], [-2]])
        full = run(pins(row, row), add(0, FURTHEST + 1), add(5, -FURTHEST - 1), add(0, 5), add(5, 10), add(5, 5))
        self.assertEqual(full, [[64], [-2], [-2], [-3], [-3], [-4]])


class Away(unittest.TestCase):
    def test_those_behind_move_up(self):
        told = run(pins([1, 2, 3], [4, 5, 6]), away(1), LIST, away(1), LIST, away(0), LIST)
        self.assertEqual(told[1:], [[0], [2, 1, 4, 3, 6], [0], [1, 1, 4], [0], [0]])

    def test_no_such_net(self):
        for net in (-1, 2, 64, -2147483648, 2147483647):
            with self.subTest(net=net):
                told = run(pins([1, 2], [4, 5]), away(net), LIST)
                self.assertEqual(told[1:], [[-1], [2, 1, 4, 2, 5]])
        self.assertEqual(run(away(0)), [[-1]])

    def test_room_for_another_one(self):
        row = rows_of(64)[0]
        self.assertEqual(run(pins(row, row), away(63), add(-1, -1), add(-2, -2)), [[64], [0], [0], [-4]])


class ListNets(unittest.TestCase):
    def test_none_one_and_many(self):
        self.assertEqual(run(LIST), [[0]])
        self.assertEqual(last(pins([-3], [8]), LIST), [1, -3, 8])
        row = rows_of(64)[0]
        self.assertEqual(last(pins(row, row), LIST), [64] + [pin for k in row for pin in (k, k)])


class Shift(unittest.TestCase):
    def test_upper_pins_alone(self):
        told = run(pins([1, 2], [4, 9]), shift(10), LIST, shift(-20), LIST, shift(0), LIST)
        self.assertEqual(told[1:3], [[0], [2, 1, 14, 2, 19]])
        self.assertEqual(told[3:], [[0], [2, 1, -6, 2, -1], [0], [2, 1, -6, 2, -1]])

    def test_no_nets(self):
        self.assertEqual(run(shift(2147483647), shift(-2147483648), LIST), [[0], [0], [0]])

    def test_up_to_the_ends_of_the_range(self):
        told = run(pins([0, 1], [0, 7]), shift(FURTHEST - 7), LIST, shift(-2 * FURTHEST + 7), LIST)
        self.assertEqual(told[1:3], [[0], [2, 0, FURTHEST - 7, 1, FURTHEST]])
        self.assertEqual(told[3:], [[0], [2, 0, -FURTHEST, 1, -FURTHEST + 7]])

    def test_one_would_be_out_of_range(self):
        for d in (FURTHEST - 6, -FURTHEST - 1, 2147483647, -2147483648):
            with self.subTest(d=d):
                told = run(pins([0, 1], [0, 7]), shift(d), LIST)
                self.assertEqual(told[1:], [[-2], [2, 0, 0, 1, 7]])


if __name__ == "__main__":
    unittest.main()
