"""Point 3: ratios."""

import unittest
from fractions import Fraction
from math import gcd

from sparewatts.ratios import greater, less, lesser, minus, over, plus, ratio, times, total

BIG = 1234567890123456789012345678901234567890
OTHER = 9876543210987654321098765432109876543211
TOPS = (0, 1, -1, 2, -6, 35, BIG, -OTHER, BIG * 6)
BOTTOMS = (1, -1, 2, -4, 9, OTHER, -BIG, BIG * 4)


def pair_of(number):
    return (number.numerator, number.denominator)


def sample():
    """Ratios of all kinds, each with the fraction that it stands for."""
    numbers = sorted({Fraction(top, bottom) for top in TOPS for bottom in BOTTOMS})
    return [(pair_of(number), number) for number in numbers]


class RatioTest(unittest.TestCase):
    def test_zero(self):
        for bottom in (1, -1, 7, -BIG):
            self.assertEqual(ratio(0, bottom), (0, 1))
        self.assertEqual(ratio(0), (0, 1))

    def test_four_divided_by_minus_six(self):
        self.assertEqual(ratio(4, -6), (-2, 3))

    def test_bottom_left_out(self):
        self.assertEqual(ratio(5), (5, 1))
        self.assertEqual(ratio(-5), (-5, 1))
        self.assertEqual(ratio(BIG), (BIG, 1))

    def test_bottom_by_name(self):
        self.assertEqual(ratio(top=6, bottom=4), (3, 2))

    def test_signs(self):
        self.assertEqual(ratio(-4, 6), (-2, 3))
        self.assertEqual(ratio(-4, -6), (2, 3))
        self.assertEqual(ratio(4, 6), (2, 3))
        self.assertEqual(ratio(-6, -3), (2, 1))

    def test_forty_figures(self):
        self.assertEqual(len(str(BIG)), 40)
        self.assertEqual(ratio(BIG * 6, BIG * -4), (-3, 2))
        self.assertEqual(ratio(-BIG, OTHER), pair_of(Fraction(-BIG, OTHER)))
        self.assertEqual(ratio(BIG * OTHER, OTHER), (BIG, 1))

    def test_equal_fractions_give_the_same_pair(self):
        for factor in (1, -1, 2, -3, BIG, -OTHER):
            self.assertEqual(ratio(15 * factor, -35 * factor), (-3, 7))

    def test_lowest_terms_and_bottom_at_least_one(self):
        for top in TOPS:
            for bottom in BOTTOMS:
                found = ratio(top, bottom)
                self.assertIs(type(found), tuple)
                self.assertGreaterEqual(found[1], 1)
                self.assertEqual(gcd(found[0], found[1]), 1)
                self.assertEqual(found, pair_of(Fraction(top, bottom)))


class ReckoningTest(unittest.TestCase):
    def test_ordinary(self):
        self.assertEqual(plus((1, 6), (1, 3)), (1, 2))
        self.assertEqual(minus((1, 6), (2, 3)), (-1, 2))
        self.assertEqual(times((2, 3), (-9, 4)), (-3, 2))
        self.assertEqual(over((2, 3), (-4, 9)), (-3, 2))

    def test_results_that_are_zero(self):
        self.assertEqual(plus((-5, 7), (5, 7)), (0, 1))
        self.assertEqual(minus((5, 7), (5, 7)), (0, 1))
        self.assertEqual(times((0, 1), (-5, 7)), (0, 1))
        self.assertEqual(over((0, 1), (-5, 7)), (0, 1))

    def test_all_pairs_of_the_sample(self):
        for a, first in sample():
            for b, second in sample():
                self.assertEqual(plus(a, b), pair_of(first + second))
                self.assertEqual(minus(a, b), pair_of(first - second))
                self.assertEqual(times(a, b), pair_of(first * second))
                if second != 0:
                    self.assertEqual(over(a, b), pair_of(first / second))

    def test_less(self):
        self.assertIs(less((1, 3), (1, 2)), True)
        self.assertIs(less((1, 2), (1, 3)), False)
        self.assertIs(less((1, 2), (1, 2)), False)
        self.assertIs(less((-1, 2), (-1, 3)), True)
        self.assertIs(less((-1, 2), (0, 1)), True)
        self.assertIs(less((BIG, OTHER), (BIG, OTHER - 1)), True)

    def test_order_of_the_sample(self):
        for a, first in sample():
            for b, second in sample():
                self.assertIs(less(a, b), first < second)
                self.assertEqual(lesser(a, b), pair_of(min(first, second)))
                self.assertEqual(greater(a, b), pair_of(max(first, second)))


class TotalTest(unittest.TestCase):
    def test_empty(self):
        self.assertEqual(total([]), (0, 1))
        self.assertEqual(total(()), (0, 1))

    def test_list_and_tuple(self):
        parts = [(1, 2), (1, 3), (-1, 6), (BIG, OTHER)]
        expected = pair_of(Fraction(2, 3) + Fraction(BIG, OTHER))
        self.assertEqual(total(parts), expected)
        self.assertEqual(total(tuple(parts)), expected)

    def test_one_part_and_equal_parts(self):
        self.assertEqual(total([(-3, 4)]), (-3, 4))
        self.assertEqual(total([(1, 4), (1, 4), (1, 4), (1, 4)]), (1, 1))
        self.assertEqual(total(((1, 4), (-1, 4))), (0, 1))

    def test_the_list_stays_as_it_was(self):
        parts = [(1, 2), (1, 3)]
        total(parts)
        self.assertEqual(parts, [(1, 2), (1, 3)])


if __name__ == "__main__":
    unittest.main()
