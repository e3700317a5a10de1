"""The interface: one list of calls in, one list of answers out, nothing changed and nothing kept."""

import unittest

from lines import BEST, LEAST, LIST, add, away, fits, pins, range_of, shift, wire
from pinchanneldesk.channel import answers

EVERY_CALL = (
    pins([0, 4], [4, 9]) + add(9, 20) + LIST + LEAST + fits(1) + fits(2) + range_of(1) + range_of(3)
    + BEST + wire(0, 1) + wire(0, 2) + shift(-4) + away(0) + LIST
)

EVERY_ANSWER = (
    [1, 2] + [1, 2] + [7, 3, 0, 4, 4, 9, 9, 20] + [1, 2] + [2, 0, 0] + [1, 1] + [3, 1, -8, -1] + [1, 2]
    + [3, 1, -8, -1] + [1, -5] + [13, 6, 0, 0, 0, 1, 3, 1, 3, 2, 4, 2, 4, 3] + [1, 0] + [1, 0] + [5, 2, 4, 5, 9, 16]
)


class GuardedList(list):
    """A list that lets nobody change it, not for a while either."""

    def refuse(self, *given, **named):
        raise AssertionError("what was handed in was changed")

    __setitem__ = __delitem__ = __iadd__ = __imul__ = refuse
    append = extend = insert = pop = remove = clear = sort = reverse = refuse


class Answers(unittest.TestCase):
    def test_count_before_each_answer(self):
        self.assertEqual(answers([4]), [1, 0])
        self.assertEqual(answers([3, 4, 7]), [1, 0, 1, 0, 1, 0])
        self.assertEqual(answers([2, 0]), [1, -1])
        self.assertEqual(answers([0, 0, 0]), [1, 0])
        self.assertEqual(answers([0, 1, 5, 1, 8, 9, 0, 1]), [1, 1, 9, 4, 5, 0, 5, 1, 8, 1, 8, 2])

    def test_several_calls(self):
        self.assertEqual(answers(EVERY_CALL), EVERY_ANSWER)

    def test_refused_calls_change_nothing(self):
        refused = [
            pins([1], []), pins([3, 2], [1, 2]), add(0, 100), add(5, 2000000000), away(2), away(-1),
            fits(-1), range_of(1001), shift(1000000000), wire(2, 2), wire(0, -1), wire(0, 1),
        ]
        for call in refused:
            with self.subTest(call=call):
                told = answers(pins([0, 4], [4, 9]) + call + LIST)
                self.assertEqual(told[:3], [1, 2, 1])
                self.assertLess(told[3], 0)
                self.assertEqual(told[4:], [5, 2, 0, 4, 4, 9])

    def test_rows_are_read_to_their_ends_also_where_refused(self):
        self.assertEqual(answers([0, 3, 4, 4, 4, 1, 3, 4]), [1, -3, 1, 0])
        self.assertEqual(answers([0, 0, 2, 7, 8, 3]), [1, -3, 1, 0])

    def test_what_is_handed_in_is_the_same_afterwards(self):
        line = list(EVERY_CALL)
        answers(line)
        self.assertEqual(line, EVERY_CALL)

    def test_what_is_handed_in_is_not_changed_for_a_while_either(self):
        self.assertEqual(answers(GuardedList(EVERY_CALL)), EVERY_ANSWER)

    def test_nothing_is_kept(self):
        line = list(EVERY_CALL)
        first = answers(line)
        self.assertEqual(answers(line), first)
        self.assertEqual(answers([3]), [1, 0])
        first.append(77)
        self.assertEqual(answers(line), EVERY_ANSWER)

    def test_kinds(self):
        told = answers(EVERY_CALL)
        self.assertIs(type(told), list)
        self.assertEqual({type(number) for number in told}, {int})

    def test_longest_lines(self):
        row = list(range(10000))
        self.assertEqual(answers(pins(row, row) + LIST), [1, -3, 1, 0])
        self.assertEqual(answers([1, 5, 5] + [9, 0, 1000] * 399), [1, 0] + [5, 2, 5, 0, 5, 1001] * 399)


if __name__ == "__main__":
    unittest.main()
