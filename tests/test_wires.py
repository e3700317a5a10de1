"""The call wire (9): the corners as the words tell them."""

import unittest

from lines import FURTHEST, LIST, away, fits, last, pins, run, shift, wire


class Corners(unittest.TestCase):
    def check(self, rows, net, h, corners):
        told = [len(corners)] + [number for corner in corners for number in corner]
        self.assertEqual(last(rows, wire(net, h)), told)

    def test_straight(self):
        self.check(pins([7], [7]), 0, 0, [(7, 0), (7, 1)])
        self.check(pins([7], [7]), 0, 1000, [(7, 0), (7, 1001)])
        self.check(pins([6, 7, 8], [6, 7, 8]), 1, 5, [(7, 0), (7, 6)])

    def test_one_net_to_the_right_and_to_the_left(self):
        self.check(pins([2], [5]), 0, 1, [(2, 0), (2, 1), (5, 1), (5, 2)])
        self.check(pins([5], [2]), 0, 1, [(5, 0), (5, 1), (2, 1), (2, 2)])
        self.check(pins([5], [2]), 0, 1000, [(5, 0), (5, 1), (2, 1), (2, 1001)])

    def test_marks_at_the_lower_pin(self):
        right = pins([0, 1, 2], [5, 6, 7])
        self.check(right, 0, 3, [(0, 0), (0, 3), (5, 3), (5, 4)])
        self.check(right, 1, 3, [(1, 0), (1, 2), (6, 2), (6, 4)])
        self.check(right, 2, 3, [(2, 0), (2, 1), (7, 1), (7, 4)])
        left = pins([5, 6, 7], [0, 1, 2])
        self.check(left, 0, 3, [(5, 0), (5, 1), (0, 1), (0, 4)])
        self.check(left, 1, 3, [(6, 0), (6, 2), (1, 2), (1, 4)])
        self.check(left, 2, 3, [(7, 0), (7, 3), (2, 3), (2, 4)])

    def test_steps_to_the_right(self):
        rows = pins([0, 4, 9], [10, 12, 14])
        self.check(rows, 0, 3, [(0, 0), (0, 1), (3, 1), (3, 2), (7, 2), (7, 3), (10, 3), (10, 4)])
        self.check(rows, 1, 3, [(4, 0), (4, 1), (8, 1), (8, 2), (12, 2), (12, 4)])
        self.check(rows, 2, 9, [(9, 0), (9, 1), (14, 1), (14, 10)])

    def test_steps_to_the_left(self):
        rows = pins([-9, -4, 0], [-14, -12, -10])
        self.check(rows, 2, 3, [(0, 0), (0, 1), (-3, 1), (-3, 2), (-7, 2), (-7, 3), (-10, 3), (-10, 4)])
        self.check(rows, 1, 3, [(-4, 0), (-4, 1), (-8, 1), (-8, 2), (-12, 2), (-12, 4)])
        self.check(rows, 0, 9, [(-9, 0), (-9, 1), (-14, 1), (-14, 10)])

    def test_marks_that_are_alike(self):
        self.check(pins([0, 4, 5], [10, 12, 14]), 0, 3, [(0, 0), (0, 1), (3, 1), (3, 3), (10, 3), (10, 4)])
        self.check(pins([-5, -4, 0], [-14, -12, -10]), 2, 3, [(0, 0), (0, 1), (-3, 1), (-3, 3), (-10, 3), (-10, 4)])
        # One at the lower pin, two alike further on, one by itself, and two at the upper pin.
        rows = pins([0, 1, 4, 5, 9, 13, 14], [8, 20, 30, 40, 50, 60, 70])
        self.check(rows, 0, 7, [(0, 0), (0, 2), (2, 2), (2, 4), (5, 4), (5, 5), (8, 5), (8, 8)])

    def test_a_mark_at_the_upper_pin_is_no_corner(self):
        self.check(pins([0, 4], [3, 10]), 0, 1, [(0, 0), (0, 1), (3, 1), (3, 2)])
        self.check(pins([0, 4], [-9, 1]), 1, 1, [(4, 0), (4, 1), (1, 1), (1, 2)])
        self.check(pins([0, 3], [3, 10]), 0, 2, [(0, 0), (0, 1), (2, 1), (2, 2), (3, 2), (3, 3)])

    def test_nets_on_the_other_side_have_no_mark(self):
        self.check(pins([0, 5, 20], [1, 9, 21]), 1, 1, [(5, 0), (5, 1), (9, 1), (9, 2)])
        self.check(pins([0, 5, 6], [-1, 2, 7]), 1, 1, [(5, 0), (5, 1), (2, 1), (2, 2)])

    def test_furthest_pins(self):
        far = FURTHEST
        self.check(pins([-far], [far]), 0, 1, [(-far, 0), (-far, 1), (far, 1), (far, 2)])
        self.check(pins([far], [-far]), 0, 1, [(far, 0), (far, 1), (-far, 1), (-far, 2)])

    def test_sixty_four(self):
        near = list(range(64))
        far = [pin + 500 for pin in near]
        for net in (0, 1, 62, 63):
            height = 64 - net
            self.check(pins(near, far), net, 64, [(net, 0), (net, height), (net + 500, height), (net + 500, 65)])
            down = [(net + 500, 0), (net + 500, net + 1), (net, net + 1), (net, 65)]
            self.check(pins(far, near), net, 64, down)


class Refusals(unittest.TestCase):
    rows = pins([0, 4], [4, 9])

    def test_no_such_net(self):
        self.assertEqual(run(wire(0, 0)), [[-1]])
        for net in (-1, 2, 2147483647, -2147483648):
            with self.subTest(net=net):
                self.assertEqual(last(self.rows, wire(net, 2)), [-1])

    def test_no_such_width(self):
        for h in (-1, 1001, 2147483647, -2147483648):
            with self.subTest(h=h):
                self.assertEqual(last(self.rows, wire(0, h)), [-2])

    def test_too_narrow(self):
        self.assertEqual(run(self.rows, wire(0, 0), wire(1, 0), wire(0, 1), wire(1, 1))[1:], [[-5]] * 4)
        # It's the whole channel that's asked, not the net alone.
        self.assertEqual(run(pins([0, 5], [0, 6]), wire(0, 0))[1:], [[-5]])

    def test_order_of_refusals(self):
        told = run(self.rows, wire(2, 1001), wire(-1, -1), wire(2, 1), wire(-1, 0))
        self.assertEqual(told[1:], [[-1]] * 4)

    def test_nothing_has_changed(self):
        told = run(self.rows, wire(0, 2), wire(5, 2), wire(0, -1), wire(0, 1), LIST)
        self.assertEqual(told[-1], [2, 0, 4, 4, 9])

    def test_after_changes(self):
        told = run(self.rows, wire(0, 1), away(1), wire(0, 1), shift(-4), wire(0, 0), fits(0))
        self.assertEqual(told[1:], [[-5], [0], [4, 0, 0, 0, 1, 4, 1, 4, 2], [0], [2, 0, 0, 0, 1], [1]])


if __name__ == "__main__":
    unittest.main()
