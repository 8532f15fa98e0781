"""[2]: whole numbers, and the reckoning with amounts."""

import unittest
from fractions import Fraction

from sharetrail.amounts import (
    ALL, NOTHING, greatest_divisor, is_amount, is_from, is_whole, is_within, less, lowest, plus, times, total,
)
from things import NO_NUMBERS

AMOUNTS = [
    (0, 1), (1, 1), (1, 2), (2, 3), (5, 4), (7, 12), (11, 6), (-1, 2), (-7, 3), (10 ** 39, 7), (1, 10 ** 39 + 1),
]


def amount_of(fraction):
    return (fraction.numerator, fraction.denominator)


class Wholes(unittest.TestCase):
    def test_ints_are_whole_numbers(self):
        for number in (0, 1, -1, 10 ** 40 - 1, -(10 ** 40) + 1):
            self.assertIs(is_whole(number), True)

    def test_others_are_none(self):
        for thing in (True, False, None, "", "1", [], [1], (), (1,), {}, {1: 1}):
            self.assertIs(is_whole(thing), False, thing)
            self.assertIs(is_from(thing, 0), False, thing)
            self.assertIs(is_within(thing, 0, 1), False, thing)

    def test_bounds(self):
        self.assertEqual([is_from(k, 3) for k in (2, 3, 4, 10 ** 39)], [False, True, True, True])
        self.assertEqual([is_within(k, 3, 5) for k in (2, 3, 4, 5, 6)], [False, True, True, True, False])


class Forms(unittest.TestCase):
    def test_amounts(self):
        for amount in AMOUNTS:
            self.assertIs(is_amount(amount), True, amount)

    def test_not_in_lowest_terms(self):
        for thing in ((0, 2), (2, 2), (2, 4), (-2, 4), (6, 9), (0, 10 ** 39), (10 ** 39, 10 ** 39)):
            self.assertIs(is_amount(thing), False, thing)

    def test_bottom_below_one(self):
        for thing in ((0, 0), (1, 0), (1, -1), (0, -1), (-1, -2)):
            self.assertIs(is_amount(thing), False, thing)

    def test_other_forms(self):
        for thing in (1, None, "12", "1/2", [1, 2], {1: 2}, (), (1,), (1, 2, 3), ((1, 2),)):
            self.assertIs(is_amount(thing), False, thing)
        for thing in NO_NUMBERS:
            self.assertIs(is_amount((1, thing)), False, thing)
            if not is_whole(thing):
                self.assertIs(is_amount((thing, 1)), False, thing)


class Reckoning(unittest.TestCase):
    def test_names(self):
        self.assertEqual((NOTHING, ALL), ((0, 1), (1, 1)))

    def test_greatest_divisor(self):
        for one, other, divisor in ((12, 18, 6), (18, 12, 6), (0, 5, 5), (5, 0, 5), (-4, 6, 2), (7, 9, 1), (8, 8, 8)):
            self.assertEqual(greatest_divisor(one, other), divisor)

    def test_lowest(self):
        cases = (
            (0, 1, (0, 1)), (0, 9, (0, 1)), (4, 2, (2, 1)), (6, 9, (2, 3)), (-6, 9, (-2, 3)), (-5, 1, (-5, 1)),
            (2 * 10 ** 39, 4 * 10 ** 39, (1, 2)),
        )
        for top, bottom, amount in cases:
            self.assertEqual(lowest(top, bottom), amount)

    def test_two_amounts(self):
        for one in AMOUNTS:
            for other in AMOUNTS:
                left, right = Fraction(*one), Fraction(*other)
                self.assertEqual(plus(one, other), amount_of(left + right))
                self.assertEqual(less(one, other), amount_of(left - right))
                self.assertEqual(times(one, other), amount_of(left * right))

    def test_total(self):
        self.assertEqual(total([]), (0, 1))
        self.assertEqual(total(()), (0, 1))
        self.assertEqual(total(((1, 2), (1, 3), (1, 6))), (1, 1))
        self.assertEqual(total(AMOUNTS), amount_of(sum([Fraction(*one) for one in AMOUNTS])))


if __name__ == "__main__":
    unittest.main()
