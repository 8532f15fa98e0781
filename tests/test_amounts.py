"""[2]: whole numbers, and the reckoning with amounts."""

import copy
import unittest
from fractions import Fraction

from sharetrail.amounts import (
    ALL, NOTHING, greatest_divisor, is_amount, is_from, is_same, is_whole, is_within, less, less_each, lowest, mixed, plus,
    times, total,
)
from things import NO_NUMBERS, WHATEVER, amount

AMOUNTS = [
    (0, 1), (1, 1), (1, 2), (2, 3), (5, 4), (7, 12), (11, 6), (-1, 2), (-7, 3), (10 ** 39, 7), (1, 10 ** 39 + 1),
]


class Wholes(unittest.TestCase):
    def test_ints_are_whole_numbers(self):
        for number in (0, 1, -1, 10 ** 40 - 1, -(10 ** 40) + 1):
            self.assertIs(is_whole(number), True)

    def test_others_are_none(self):
        for thing in (True, False, None, "", "1", [], [1], (), (1,), {}, {1: 1}):
            self.assertIs(is_whole(thing), False, thing)
            self.assertIs(is_from(thing, 0), False, thing)
            self.assertIs(is_within(thing, 0, 1), False, thing)

    def test_bounds(self):
        self.assertEqual([is_from(k, 3) for k in (2, 3, 4, 10 ** 39)], [False, True, True, True])
        self.assertEqual([is_within(k, 3, 5) for k in (2, 3, 4, 5, 6)], [False, True, True, True, False])


class Forms(unittest.TestCase):
    def test_amounts(self):
        for one in AMOUNTS:
            self.assertIs(is_amount(one), True, one)

    def test_not_in_lowest_terms(self):
        for thing in ((0, 2), (2, 2), (2, 4), (-2, 4), (6, 9), (0, 10 ** 39), (10 ** 39, 10 ** 39)):
            self.assertIs(is_amount(thing), False, thing)

    def test_bottom_below_one(self):
        for thing in ((0, 0), (1, 0), (1, -1), (0, -1), (-1, -2)):
            self.assertIs(is_amount(thing), False, thing)

    def test_other_forms(self):
        for thing in (1, None, "12", "1/2", [1, 2], {1: 2}, (), (1,), (1, 2, 3), ((1, 2),)):
            self.assertIs(is_amount(thing), False, thing)
        for thing in NO_NUMBERS:
            self.assertIs(is_amount((1, thing)), False, thing)
            if not is_whole(thing):
                self.assertIs(is_amount((thing, 1)), False, thing)


class Same(unittest.TestCase):
    def test_same(self):
        for told in (0, 1, -1, 10 ** 50, (), [], (1, 2), [1, 2], [(1,), ((0, 1), [2])], ((), [])):
            self.assertIs(is_same(copy.deepcopy(told), told), True, told)

    def test_none(self):
        self.assertIs(is_same(None, None), True)
        self.assertIs(is_same((1, None), (1, None)), True)
        for thing in [thing for thing in WHATEVER if thing is not None]:
            self.assertIs(is_same(thing, None), False, thing)
            self.assertIs(is_same((1, thing), (1, None)), False, thing)

    def test_truths(self):
        pairs = [(True, 1), (False, 0), ((True,), (1,)), ([(1, False)], [(1, 0)]), ((0, (1, True)), (0, (1, 1)))]
        for thing, told in pairs:
            self.assertEqual(thing, told)
            self.assertIs(is_same(thing, told), False, thing)

    def test_other_things(self):
        told = [(1, (2, 3)), 4]
        others = [
            ((1, (2, 3)), 4), [[1, (2, 3)], 4], [(1, [2, 3]), 4], [(1, (2, 3)), 5], [(1, (2, 3))], [(1, (2, 3)), 4, 4],
            [(1, (2, 3, 3)), 4], [(1, (3, 2)), 4], [4, (1, (2, 3))], [(1, 2, 3), 4], [], {}, None, "", 4, [1, 4],
            [None, None],
        ]
        for thing in others + WHATEVER:
            self.assertIs(is_same(thing, told), False, thing)


class Reckoning(unittest.TestCase):
    def test_names(self):
        self.assertEqual((NOTHING, ALL), ((0, 1), (1, 1)))

    def test_greatest_divisor(self):
        for one, other, divisor in ((12, 18, 6), (18, 12, 6), (0, 5, 5), (5, 0, 5), (-4, 6, 2), (7, 9, 1), (8, 8, 8)):
            self.assertEqual(greatest_divisor(one, other), divisor)

    def test_lowest(self):
        cases = (
            (0, 1, (0, 1)), (0, 9, (0, 1)), (4, 2, (2, 1)), (6, 9, (2, 3)), (-6, 9, (-2, 3)), (-5, 1, (-5, 1)),
            (2 * 10 ** 39, 4 * 10 ** 39, (1, 2)),
        )
        for top, bottom, told in cases:
            self.assertEqual(lowest(top, bottom), told)

    def test_two_amounts(self):
        for one in AMOUNTS:
            for other in AMOUNTS:
                left, right = Fraction(*one), Fraction(*other)
                self.assertEqual(plus(one, other), amount(left + right))
                self.assertEqual(less(one, other), amount(left - right))
                self.assertEqual(times(one, other), amount(left * right))

    def test_less_each(self):
        told = tuple(less(one, other) for one, other in zip(AMOUNTS, AMOUNTS[::-1]))
        self.assertEqual(less_each(tuple(AMOUNTS), tuple(AMOUNTS[::-1])), told)
        self.assertEqual(less_each((), ()), ())

    def test_mixed(self):
        for one in AMOUNTS:
            for other in AMOUNTS:
                for weight, more in ((1, 1), (3, 5), (6, 0), (0, 6), (10 ** 39, 1)):
                    mean = (Fraction(*one) * weight + Fraction(*other) * more) / (weight + more)
                    self.assertEqual(mixed(one, weight, other, more), amount(mean))

    def test_total(self):
        self.assertEqual(total([]), (0, 1))
        self.assertEqual(total(()), (0, 1))
        self.assertEqual(total(((1, 2), (1, 3), (1, 6))), (1, 1))
        self.assertEqual(total(AMOUNTS), amount(sum([Fraction(*one) for one in AMOUNTS])))


if __name__ == "__main__":
    unittest.main()
