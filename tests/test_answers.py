"""The interface: one list of calls in, one list of answers out, nothing changed and nothing kept."""

import unittest

from lines import (
    BEST, FURTHEST, LEAST, LIST, MIRROR, TURN, add, at, away, check, check_row, fits, length, move, pins, range_of,
    room, route, rows_of, shift, track, wire,
)
from pinchanneldesk.channel import answers

# Calls of all kinds, each with what it answers behind those before it.
CALLS_AND_ANSWERS = (
    (pins([0, 4], [4, 9]), [2]),
    (add(9, 20), [2]),
    (LIST, [3, 0, 4, 4, 9, 9, 20]),
    (LEAST, [2]),
    (fits(1), [0, 0]),
    (fits(2), [1]),
    (range_of(1), [1, -8, -1]),
    (range_of(3), [2]),
    (BEST, [1, -8, -1]),
    (wire(0, 1), [-5]),
    (wire(0, 2), [6, 0, 0, 0, 1, 3, 1, 3, 2, 4, 2, 4, 3]),
    (length(1), [-5]),
    (length(2), [29]),
    (track(2, 1), [3, 0, 0, 3, 1, 4, 8, 2, 9, 20]),
    (track(2, 2), [2, 0, 3, 4, 1, 8, 9]),
    (track(2, 3), [-2]),
    (at(2, 3, 2), [1, 0]),
    (at(2, 2, 2), [0]),
    (room(0, 1), [1, -FURTHEST, 3]),
    (room(1, 1), [1, 5, 8]),
    (move(1, 4), [-3]),
    (move(0, 3), [0]),
    (move(1, 8), [0]),
    (route(1), [3, 4, 0, 0, 0, 1, 3, 1, 3, 2, 4, 4, 0, 4, 1, 8, 1, 8, 2, 4, 9, 0, 9, 1, 20, 1, 20, 2]),
    (check(1, [(0, 0), (0, 1), (3, 1), (3, 2)]), [1]),
    (shift(-4), [0]),
    (away(2), [0]),
    (LIST, [2, 0, -1, 4, 4]),
    (MIRROR, [0]),
    (LIST, [2, -4, -4, 0, 1]),
    (route(0), [-5]),
    (route(1), [2, 2, -4, 0, -4, 2, 4, 0, 0, 0, 1, 1, 1, 1, 2]),
    (TURN, [0]),
    (LIST, [2, -4, -4, 1, 0]),
    (check(1, [(-4, 0), (-4, 2)], [(1, 0), (1, 1), (0, 1), (0, 2)]), [0]),
    (check(1, [(-4, 0), (-4, 2)], [(1, 0), (1, 1), (-4, 1), (0, 1), (0, 2)]), [4, 0, 1]),
    (check(1, [(-4, 0), (-4, 3), (-4, 2)], [(1, 0), (1, 1), (0, 1), (0, 2)]), [3, 0]),
    (check(1, [(-4, 0), (-4, 2)], [(0, 0), (0, 2)]), [2, 1]),
    (check_row(1, [2, -4, 0, -4, 2, 3]), [-3]),
    (pins([5], []), [-3]),
    (add(2, 1), [2]),
    (away(3), [-1]),
    (shift(FURTHEST), [-2]),
    (LIST, [3, -4, -4, 1, 0, 2, 1]),
)

EVERY_CALL = [number for call, answer in CALLS_AND_ANSWERS for number in call]
EVERY_ANSWER = [number for call, answer in CALLS_AND_ANSWERS for number in [len(answer)] + answer]


class GuardedList(list):
    """A list that lets nobody change it, not for a while either."""

    def refuse(self, *given, **named):
        raise AssertionError("what was handed in was changed")

    __setitem__ = __delitem__ = __iadd__ = __imul__ = refuse
    append = extend = insert = pop = remove = clear = sort = reverse = refuse


class Answers(unittest.TestCase):
    def test_count_before_each_answer(self):
        self.assertEqual(answers([4]), [1, 0])
        self.assertEqual(answers([3, 4, 7]), [1, 0, 1, 0, 1, 0])
        self.assertEqual(answers([2, 0]), [1, -1])
        self.assertEqual(answers([0, 0, 0]), [1, 0])
        self.assertEqual(answers([0, 1, 5, 1, 8, 9, 0, 1]), [1, 1, 9, 4, 5, 0, 5, 1, 8, 1, 8, 2])

        self.assertEqual(answers([10, 0, 11, 0, 17, 18]), [1, 0, 1, 0, 1, 0, 1, 0])
        self.assertEqual(answers([14, 0, 0, 14, 0, 1, 0, 13, 0, 0, 0]), [1, 0, 1, 1, 1, 0])
        self.assertEqual(answers([1, 5, 5, 13, 0, 5, 0, 15, 0, 0, 12, 1, 1]), [1, 0, 2, 1, 0, 3, 1, 5, 5, 1, 0])

    def test_several_calls(self):
        self.assertEqual({call[0] for call, answer in CALLS_AND_ANSWERS}, set(range(19)))
        self.assertEqual(answers(EVERY_CALL), EVERY_ANSWER)

    def test_each_call_as_the_last_one(self):
        line = []
        for call, answer in CALLS_AND_ANSWERS:
            line = line + call
            self.assertEqual(answers(line)[-len(answer) - 1:], [len(answer)] + answer, call)

    def test_refused_calls_change_nothing(self):
        refused = [
            pins([1], []), pins([3, 2], [1, 2]), add(0, 100), add(5, 2000000000), away(2), away(-1),
            fits(-1), range_of(1001), shift(1000000000), wire(2, 2), wire(0, -1), wire(0, 1), route(1), route(1001),
            length(1), length(-1), track(1, 1), track(2, 0), track(2, 3), track(-1, 1), at(1, 0, 0), at(1001, 0, 0),
            check_row(-1, []), check_row(2, [-1]), check_row(2, [1, 5]), room(2, 1), room(-1, 1), room(0, 1001),
            move(2, 5), move(-1, 5), move(0, FURTHEST + 1), move(0, 9), move(1, 4),
        ]
        for call in refused:
            with self.subTest(call=call):
                told = answers(pins([0, 4], [4, 9]) + call + LIST)
                self.assertEqual(told[:3], [1, 2, 1])
                self.assertLess(told[3], 0)
                self.assertEqual(told[4:], [5, 2, 0, 4, 4, 9])

    def test_rows_are_read_to_their_ends_also_where_refused(self):
        self.assertEqual(answers([0, 3, 4, 4, 4, 1, 3, 4]), [1, -3, 1, 0])
        self.assertEqual(answers([0, 0, 2, 7, 8, 3]), [1, -3, 1, 0])
        self.assertEqual(answers([14, -1, 3, 4, 4, 4, 3, 4]), [1, -2, 1, 0, 1, 0])
        self.assertEqual(answers([14, 1, 3, -1, 4, 4, 3, 4]), [1, -3, 1, 0, 1, 0])

    def test_what_is_handed_in_is_the_same_afterwards(self):
        line = list(EVERY_CALL)
        answers(line)
        self.assertEqual(line, EVERY_CALL)

    def test_what_is_handed_in_is_not_changed_for_a_while_either(self):
        self.assertEqual(answers(GuardedList(EVERY_CALL)), EVERY_ANSWER)

    def test_nothing_is_kept(self):
        line = list(EVERY_CALL)
        first = answers(line)
        self.assertEqual(answers(line), first)
        self.assertEqual(answers([3]), [1, 0])
        self.assertEqual(answers([17, 3, 10, 0]), [1, 0, 1, 0, 1, 0])
        first.append(77)
        self.assertEqual(answers(line), EVERY_ANSWER)

    def test_kinds(self):
        told = answers(EVERY_CALL)
        self.assertIs(type(told), list)
        self.assertEqual({type(number) for number in told}, {int})

    def test_longest_lines(self):
        row = list(range(10000))
        self.assertEqual(answers(pins(row, row) + LIST), [1, -3, 1, 0])
        self.assertEqual(answers([1, 5, 5] + [9, 0, 1000] * 399), [1, 0] + [5, 2, 5, 0, 5, 1001] * 399)
        self.assertEqual(answers([1, 5, 7] + [17, 18] * 199 + [3]), [1, 0] + [1, 0] * 398 + [3, 1, -7, -5])
        self.assertEqual(answers(check_row(0, [0] * 10000) * 3), [1, 1] * 3)

    def test_calls_that_draw_much(self):
        lower = [3 * k * k for k in range(64)]
        upper = [1000000 + k for k in range(64)]
        line = pins(lower, upper) + route(1000) * 40 + at(1000, -1, 1) * 100 + track(1000, 1000) * 100
        told = answers(line + length(64) * 159)
        self.assertLess(len(told), 1000000)
        self.assertEqual(told[-2:], [1, sum(upper) - sum(lower) + 64 * 65])
        row = rows_of(64)[0]
        self.assertEqual(answers(pins(row, row) + length(0) * 399), [1, 64] + [1, 64] * 399)


if __name__ == "__main__":
    unittest.main()
