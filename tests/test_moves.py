"""The calls that tell and change places of pins: room, move, turn, mirror (15, 16, 17, 18)."""

import unittest

from lines import (
    BEST, FURTHEST, LEAST, LIST, MIRROR, TURN, add, at, away, fits, last, length, move, pins, range_of, room, route,
    rows_of, run, shift, track, wire,
)

GREATEST = 2147483647
NO_WIDTHS = (-1, 1001, -GREATEST - 1, GREATEST)


class Room(unittest.TestCase):
    def test_no_net(self):
        self.assertEqual(run(room(0, 0)), [[-1]])

    def test_one_net(self):
        answers = run(pins([7], [3]), room(0, 0), room(0, 1), room(0, 1000))
        self.assertEqual(answers[1:], [[1, 7, 7], [1, -FURTHEST, FURTHEST], [1, -FURTHEST, FURTHEST]])
        self.assertEqual(last(pins([FURTHEST], [0]), room(0, 0)), [1, FURTHEST, FURTHEST])
        self.assertEqual(last(pins([-FURTHEST], [0]), room(0, 0)), [1, -FURTHEST, -FURTHEST])

    def test_no_track(self):
        answers = run(pins([0, 10, 20], [1, 11, 21]), room(0, 0), room(1, 0), room(2, 0))
        self.assertEqual(answers[1:], [[1, 0, 0], [1, 10, 10], [1, 20, 20]])
        # The lower pin lies at or beyond a neighbour's upper pin.
        self.assertEqual(run(pins([0, 10], [-5, -3]), room(0, 0), room(1, 0))[1:], [[0], [1, 10, 10]])
        self.assertEqual(run(pins([0, 10], [-5, 0]), room(0, 0))[1:], [[0]])
        self.assertEqual(run(pins([0, 10], [-5, 1]), room(0, 0))[1:], [[1, 0, 0]])
        self.assertEqual(run(pins([0, 10], [10, 13]), room(1, 0))[1:], [[0]])
        self.assertEqual(run(pins([0, 10], [9, 13]), room(1, 0))[1:], [[1, 10, 10]])

    def test_between_the_neighbours_in_the_upper_row(self):
        rows = pins([0, 10, 20], [1, 11, 21])
        answers = run(rows, room(0, 3), room(1, 3), room(2, 3), room(1, 2), room(1, 1000))
        self.assertEqual(answers[1:], [[1, -FURTHEST, 10], [1, 2, 20], [1, 12, FURTHEST], [1, 2, 20], [1, 2, 20]])

    def test_lower_pins_as_many_further_on_and_before(self):
        rows = pins([0, 10, 20], [-50, -30, -20])
        # From the left: the lower pin before and h.
        self.assertEqual(run(rows, room(1, 1), room(2, 1), room(2, 2), room(2, 3))[1:], [
            [0], [1, 11, FURTHEST], [1, 2, FURTHEST], [1, -29, FURTHEST],
        ])
        rows = pins([0, 10, 20], [40, 50, 70])
        # From the right: the lower pin further on, less h.
        self.assertEqual(run(rows, room(1, 1), room(0, 1), room(0, 2), room(0, 3))[1:], [
            [0], [1, -FURTHEST, 9], [1, -FURTHEST, 18], [1, -FURTHEST, 49],
        ])
        self.assertEqual(last(pins([0, 10, 20], [-50, 7, 70]), room(1, 1)), [1, 1, 19])

    def test_just_one_number_and_none(self):
        self.assertEqual(last(pins([0, 1, 2], [5, 6, 7]), room(1, 3)), [1, 6, 6])
        self.assertEqual(last(pins([0, 1, 2], [0, 1, 2]), room(1, 1)), [1, 1, 1])
        self.assertEqual(last(pins([0, 1, 2], [5, 6, 7]), room(1, 1)), [0])
        self.assertEqual(last(pins([0, 1], [1 - FURTHEST, 0]), room(1, 2)), [1, 2 - FURTHEST, FURTHEST])
        self.assertEqual(last(pins([0, 1], [-FURTHEST, 1 - FURTHEST]), room(0, 2)), [1, -FURTHEST, -FURTHEST])
        self.assertEqual(last(pins([0, 1], [FURTHEST - 1, FURTHEST]), room(1, 2)), [1, FURTHEST, FURTHEST])

    def test_nothing_else_is_asked_of_the_channel(self):
        # Net 0 is far too far for one track; net 2 has room all the same.
        rows = pins([0, 10, 20, 30], [15, 16, 17, 40])
        self.assertEqual(run(rows, fits(1), room(2, 1), room(3, 1))[1:], [[0, 0], [1, 17, 29], [1, 21, FURTHEST]])

    def test_sixty_four(self):
        row = rows_of(64)[0]
        answers = run(pins(row, row), room(0, 63), room(0, 64), room(63, 63), room(63, 64), room(32, 1), room(63, 1000))
        self.assertEqual(answers[1:], [
            [1, -FURTHEST, 9], [1, -FURTHEST, 9], [1, 621, FURTHEST], [1, 621, FURTHEST], [1, 311, 329],
            [1, 621, FURTHEST],
        ])
        near = list(range(64))
        far = [pin + 1000 for pin in near]
        self.assertEqual(run(pins(near, far), room(0, 63), room(0, 64))[1:], [[1, -FURTHEST, 0], [1, -FURTHEST, 1000]])
        self.assertEqual(run(pins(far, near), room(63, 63), room(63, 64))[1:], [[1, 1063, FURTHEST], [1, 63, FURTHEST]])

    def test_refusals_and_their_order(self):
        rows = pins([0, 10], [1, 11])
        for net in (-1, 2, GREATEST, -GREATEST - 1):
            self.assertEqual(run(rows, room(net, 1), room(net, 1001), LIST)[1:], [[-1], [-1], [2, 0, 1, 10, 11]])
        for h in NO_WIDTHS:
            self.assertEqual(run(rows, room(0, h), room(1, h), room(2, h), LIST)[1:], [
                [-2], [-2], [-1], [2, 0, 1, 10, 11],
            ])

    def test_nothing_has_changed(self):
        self.assertEqual(last(pins([0, 10], [1, 11]), room(0, 0), room(0, 1), LIST), [2, 0, 1, 10, 11])


class Move(unittest.TestCase):
    rows = pins([0, 10, 20], [1, 11, 21])

    def moved(self, net, a):
        return run(self.rows, move(net, a), LIST)[1:]

    def test_upper_pin_alone(self):
        self.assertEqual(self.moved(1, 15), [[0], [3, 0, 1, 10, 15, 20, 21]])
        self.assertEqual(self.moved(0, -9), [[0], [3, 0, -9, 10, 11, 20, 21]])
        self.assertEqual(self.moved(2, 12), [[0], [3, 0, 1, 10, 11, 20, 12]])
        self.assertEqual(self.moved(1, 11), [[0], [3, 0, 1, 10, 11, 20, 21]])

    def test_ends_of_the_range(self):
        self.assertEqual(self.moved(0, -FURTHEST), [[0], [3, 0, -FURTHEST, 10, 11, 20, 21]])
        self.assertEqual(self.moved(2, FURTHEST), [[0], [3, 0, 1, 10, 11, 20, FURTHEST]])

    def test_refused(self):
        same = [3, 0, 1, 10, 11, 20, 21]
        for net in (-1, 3, GREATEST, -GREATEST - 1):
            self.assertEqual(self.moved(net, 15), [[-1], same])
        for a in (FURTHEST + 1, -FURTHEST - 1, GREATEST, -GREATEST - 1):
            for net in (0, 1, 2):
                self.assertEqual(self.moved(net, a), [[-2], same])
        for net, a in ((0, 11), (0, 12), (1, 1), (1, 0), (1, 21), (1, 22), (2, 11), (2, 10), (0, FURTHEST)):
            self.assertEqual(self.moved(net, a), [[-3], same])
        self.assertEqual(run(move(0, 0)), [[-1]])

    def test_order_of_refusals(self):
        answers = run(self.rows, move(3, FURTHEST + 1), move(-1, 11), move(0, FURTHEST + 1), move(2, -FURTHEST - 1))
        self.assertEqual(answers[1:], [[-1], [-1], [-2], [-2]])

    def test_room_is_where_it_may_move_to(self):
        answers = run(self.rows, room(1, 3), move(1, 2), move(1, 20), move(1, 1), move(1, 21), LIST)
        self.assertEqual(answers[1:], [[1, 2, 20], [0], [0], [-3], [-3], [3, 0, 1, 10, 20, 20, 21]])

    def test_sixty_four(self):
        row = rows_of(64)[0]
        answers = run(pins(row, row), move(63, FURTHEST), LEAST, length(1), move(64, 0))
        self.assertEqual(answers[1:], [[0], [1], [64 * 2 + FURTHEST - 630], [-1]])

    def test_what_later_calls_answer(self):
        answers = run(
            self.rows, LEAST, move(0, 0), move(1, 10), move(2, 20), LEAST, route(0), move(1, 19), LEAST, wire(1, 1),
            at(1, 15, 1), track(1, 1), move(1, 20), move(2, 30), move(1, 20), fits(1), fits(2),
        )
        self.assertEqual(answers[1:7], [[1], [0], [0], [0], [0], [3, 2, 0, 0, 0, 1, 2, 10, 0, 10, 1, 2, 20, 0, 20, 1]])
        self.assertEqual(answers[7:12], [[0], [1], [4, 10, 0, 10, 1, 19, 1, 19, 2], [1, 1], [1, 1, 10, 19]])
        self.assertEqual(answers[12:], [[-3], [0], [0], [0, 1], [1]])


class Turn(unittest.TestCase):
    rows = pins([0, 4, 9], [10, 12, 14])

    def test_pins_change_places(self):
        self.assertEqual(run(self.rows, TURN, LIST)[1:], [[0], [3, 10, 0, 12, 4, 14, 9]])
        self.assertEqual(run(self.rows, TURN, TURN, LIST)[1:], [[0], [0], [3, 0, 10, 4, 12, 9, 14]])

    def test_no_net_and_one_net(self):
        self.assertEqual(run(TURN, LIST), [[0], [0]])
        self.assertEqual(run(pins([-FURTHEST], [FURTHEST]), TURN, LIST)[1:], [[0], [1, FURTHEST, -FURTHEST]])

    def test_sixty_four(self):
        lower = rows_of(64)[0]
        upper = [pin + 3 for pin in lower]
        self.assertEqual(last(pins(lower, upper), TURN, LIST), [64] + [pin for k in lower for pin in (k + 3, k)])

    def test_what_later_calls_answer(self):
        answers = run(self.rows, TURN, LEAST, wire(2, 3), track(3, 1), at(3, 10, 0), at(3, 0, 4), length(3), room(0, 1))
        self.assertEqual(answers[2:4], [[3], [8, 14, 0, 14, 1, 13, 1, 13, 2, 12, 2, 12, 3, 9, 3, 9, 4]])
        self.assertEqual(answers[4:], [
            [3, 0, 0, 10, 1, 11, 12, 2, 13, 14], [1, 0], [1, 0], [35], [1, -FURTHEST, 3],
        ])

    def test_rows_are_changed_apart(self):
        answers = run(self.rows, TURN, move(0, 3), shift(1), TURN, LIST, TURN, away(1), add(13, 6), LIST)
        self.assertEqual(answers[5], [3, 4, 10, 5, 12, 10, 14])
        self.assertEqual(answers[6:], [[0], [0], [1], [3, 10, 4, 13, 6, 14, 10]])

    def test_range_and_best(self):
        answers = run(pins([0, 6], [1, 8]), range_of(1), BEST, TURN, range_of(1), BEST)
        self.assertEqual(answers[1:], [[1, -7, 4], [1, -7, 4], [0], [1, -4, 7], [1, -4, 7]])


class Mirror(unittest.TestCase):
    rows = pins([0, 4, 9], [10, 12, 14])

    def test_signs_and_order(self):
        self.assertEqual(run(self.rows, MIRROR, LIST)[1:], [[0], [3, -9, -14, -4, -12, 0, -10]])
        self.assertEqual(run(self.rows, MIRROR, MIRROR, LIST)[1:], [[0], [0], [3, 0, 10, 4, 12, 9, 14]])

    def test_no_net_and_one_net(self):
        self.assertEqual(run(MIRROR, LIST), [[0], [0]])
        self.assertEqual(run(pins([-FURTHEST], [FURTHEST]), MIRROR, LIST)[1:], [[0], [1, FURTHEST, -FURTHEST]])
        self.assertEqual(run(pins([5], [-8]), MIRROR, LIST)[1:], [[0], [1, -5, 8]])

    def test_sixty_four(self):
        lower = rows_of(64)[0]
        upper = [pin + 3 for pin in lower]
        nets = [pin for k in reversed(lower) for pin in (-k, -k - 3)]
        self.assertEqual(last(pins(lower, upper), MIRROR, LIST), [64] + nets)

    def test_what_later_calls_answer(self):
        answers = run(self.rows, MIRROR, LEAST, fits(2), wire(1, 3), track(3, 2), at(3, -14, 4), length(3), room(2, 1))
        self.assertEqual(answers[2:5], [[3], [0, 0], [6, -4, 0, -4, 1, -8, 1, -8, 2, -12, 2, -12, 4]])
        self.assertEqual(answers[5:], [[2, 1, -12, -8, 2, -7, -3], [1, 0], [35], [1, -3, FURTHEST]])

    def test_later_changes(self):
        answers = run(self.rows, MIRROR, away(0), move(1, -1), add(7, 8), LIST, MIRROR, LIST, TURN, LIST)
        self.assertEqual(answers[2:6], [[0], [0], [2], [3, -4, -12, 0, -1, 7, 8]])
        self.assertEqual(answers[6:], [[0], [3, -7, -8, 0, 1, 4, 12], [0], [3, -8, -7, 1, 0, 12, 4]])

    def test_range_and_best(self):
        answers = run(pins([0, 6], [1, 8]), MIRROR, range_of(1), BEST)
        self.assertEqual(answers[1:], [[0], [1, -4, 7], [1, -4, 7]])


if __name__ == "__main__":
    unittest.main()
