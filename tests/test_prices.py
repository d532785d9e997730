"""Points 10 and 11: prices and costs."""

import random
import unittest
from fractions import Fraction

from samples import BEST, convex_tables, fraction, fractions_of, job_lists, other_plan, pair_of, piece

from sparewatts.prices import cost, price_at

SQUARE = ("square",)
TWO = ("table", ((0, 7), (4, 5)))
# The slopes are -4, -3, 0, 0 and 10.
SIX = ("table", ((0, 10), (1, 6), (3, 0), (5, 0), (7, 0), (10, 30)))
# It costs something to be idle, and nothing else.
STANDING = ("table", ((0, 3), (1, 3)))


def line_price(points, speed):
    """The price at a speed by trying all lines: a convex function is the greatest of them."""
    found = []
    for (left, low), (right, high) in zip(points, points[1:]):
        found.append(low + Fraction(high - low, right - left) * (speed - left))
    return max(found)


class PriceAtTest(unittest.TestCase):
    def assert_prices(self, price, expected):
        for speed, worth in expected:
            self.assertEqual(price_at(price, speed), worth, speed)

    def test_the_square(self):
        self.assert_prices(SQUARE, [((0, 1), (0, 1)), ((3, 1), (9, 1)), ((5, 4), (25, 16)), ((1, 1000), (1, 1000000))])

    def test_a_table_of_two_points(self):
        self.assert_prices(TWO, [((0, 1), (7, 1)), ((4, 1), (5, 1)), ((2, 1), (6, 1)), ((1, 3), (41, 6))])

    def test_two_points_behind_the_last(self):
        self.assert_prices(TWO, [((6, 1), (4, 1)), ((14, 1), (0, 1)), ((20, 1), (-3, 1)), ((9, 2), (19, 4))])

    def test_six_points(self):
        at_points = [((0, 1), (10, 1)), ((1, 1), (6, 1)), ((3, 1), (0, 1)), ((5, 1), (0, 1)), ((7, 1), (0, 1))]
        self.assert_prices(SIX, at_points + [((10, 1), (30, 1))])

    def test_six_points_between_two_of_them(self):
        self.assert_prices(SIX, [((1, 2), (8, 1)), ((2, 1), (3, 1)), ((4, 1), (0, 1)), ((13, 2), (0, 1))])
        self.assert_prices(SIX, [((8, 1), (10, 1)), ((22, 3), (10, 3)), ((99, 10), (29, 1))])

    def test_six_points_behind_the_last(self):
        self.assert_prices(SIX, [((11, 1), (40, 1)), ((21, 2), (35, 1)), ((1000000, 1), (9999930, 1))])

    def test_equal_slopes(self):
        price = ("table", ((0, 1), (1, 3), (2, 5), (4, 9)))
        self.assert_prices(price, [((0, 1), (1, 1)), ((3, 2), (4, 1)), ((3, 1), (7, 1)), ((5, 1), (11, 1))])

    def test_slopes_that_are_no_integers(self):
        price = ("table", ((0, 0), (3, 1), (5, 2)))
        self.assert_prices(price, [((1, 1), (1, 3)), ((4, 1), (3, 2)), ((6, 1), (5, 2))])

    def test_a_table_that_costs_something_at_the_speed_0(self):
        self.assert_prices(STANDING, [((0, 1), (3, 1)), ((1, 2), (3, 1)), ((50, 1), (3, 1))])

    def test_numbers_up_to_a_million(self):
        price = ("table", ((0, 1000000), (999999, 0), (1000000, 1000000)))
        self.assert_prices(price, [((999999, 2), (500000, 1)), ((1999999, 2), (500000, 1))])
        self.assert_prices(price, [((1000001, 1), (2000000, 1))])

    def test_somewhat_beyond_the_limits(self):
        seven = ("table", tuple((at, at * at) for at in range(7)))
        self.assert_prices(seven, [((11, 2), (61, 2)), ((7, 1), (47, 1))])
        self.assert_prices(("table", ((0, 4),)), [((0, 1), (4, 1)), ((3, 1), (4, 1))])

    def test_many_tables_by_their_lines(self):
        chance = random.Random(10)
        for price in convex_tables(1, 60):
            for _ in range(10):
                speed = Fraction(chance.randint(0, 60), chance.randint(1, 4))
                self.assertEqual(price_at(price, pair_of(speed)), pair_of(line_price(price[1], speed)))


class CostTest(unittest.TestCase):
    PLAN = (piece(2, 4, "a", 3), piece(4, (9, 2), "b", 2), piece(6, 8, "a", (1, 2)))

    def assert_cost(self, price, begin, end, expected):
        self.assertEqual(cost(self.PLAN, price, begin, end), expected)

    def test_the_example(self):
        self.assertEqual(cost(BEST, SQUARE, 0, 10), (61, 2))

    def test_pieces_wholly_in_the_time(self):
        # 2 * 9 + 1/2 * 4 + 2 * 1/4
        self.assert_cost(SQUARE, 2, 8, (41, 2))
        self.assert_cost(SQUARE, 0, 10, (41, 2))

    def test_pieces_partly_in_the_time(self):
        self.assert_cost(SQUARE, 3, 7, (45, 4))
        self.assert_cost(SQUARE, 3, 4, (9, 1))
        self.assert_cost(SQUARE, 7, 9, (1, 4))

    def test_pieces_wholly_outside_of_the_time(self):
        self.assert_cost(SQUARE, 0, 2, (0, 1))
        self.assert_cost(SQUARE, 5, 6, (0, 1))
        self.assert_cost(SQUARE, 8, 100, (0, 1))
        self.assert_cost(SQUARE, 4, 6, (2, 1))

    def test_one_piece_around_the_time(self):
        self.assertEqual(cost((piece(0, 9, "a", 2),), SQUARE, 3, 5), (8, 1))

    def test_idle_times_cost_what_the_speed_0_costs(self):
        self.assert_cost(STANDING, 0, 10, (30, 1))
        # At the speed 0 for 11/2 units of time: 44; then -4 * 2 at 3, nothing at 2, 6 * 2 at 1/2.
        self.assert_cost(("table", ((0, 8), (2, 0))), 0, 10, (48, 1))
        self.assert_cost(TWO, 0, 2, (14, 1))
        self.assert_cost(TWO, 5, 6, (7, 1))
        self.assert_cost(TWO, 8, 11, (21, 1))

    def test_begin_is_end(self):
        for price in (SQUARE, TWO, SIX, STANDING):
            for time in (0, 2, 3, 5, 8, 20):
                self.assert_cost(price, time, time, (0, 1))

    def test_the_empty_plan(self):
        self.assertEqual(cost((), SQUARE, 0, 10), (0, 1))
        self.assertEqual(cost((), SIX, 3, 7), (40, 1))
        self.assertEqual(cost((), SIX, 0, 0), (0, 1))

    def test_a_cost_below_0(self):
        self.assertEqual(cost((piece(0, 1, "a", 20),), TWO, 0, 1), (-3, 1))

    def test_from_begin_to_middle_and_from_middle_to_end(self):
        for seed, jobs in enumerate(job_lists(11, 10)):
            plan = other_plan(jobs, seed)
            for price in (SQUARE, TWO, SIX):
                whole = fraction(cost(plan, price, 1, 9))
                for middle in range(1, 10):
                    first = fraction(cost(plan, price, 1, middle))
                    self.assertEqual(first + fraction(cost(plan, price, middle, 9)), whole)

    def test_many_plans_stretch_by_stretch(self):
        for seed, jobs in enumerate(job_lists(12, 20)):
            plan = other_plan(jobs, seed)
            for price in convex_tables(seed, 3):
                spent, idle = Fraction(0), Fraction(9)
                for start, end, _, speed in fractions_of(plan):
                    spent += line_price(price[1], speed) * (end - start)
                    idle -= end - start
                self.assertEqual(cost(plan, price, 0, 9), pair_of(spent + idle * price[1][0][1]))


if __name__ == "__main__":
    unittest.main()
