"""Points 30 and 31: sleeping in gaps."""

import random
import unittest
from fractions import Fraction

from samples import BEST, fraction, pair_of

from sparewatts.plans import gaps
from sparewatts.ratios import minus, ratio
from sparewatts.sleep import asleep, doze_cost, dozing

# 0 and 1 cost the same at 2, 1 and 3 at 5; 2 is never of use.
DEPTHS = ((5, 0), (2, 6), (1, 14), (0, 16))


def depth_lists(seed, many):
    chance = random.Random(seed)
    found = []
    for _ in range(many):
        size = chance.randint(1, 6)
        rates = sorted(chance.sample(range(12), size), reverse=True)
        wakes = [0] + sorted(chance.sample(range(1, 30), size - 1))
        found.append(tuple(zip(rates, wakes)))
    return found


def lengths(depths):
    """Lengths between, at and behind the times of all turns, as fractions."""
    meets = {Fraction(0), Fraction(1, 3), Fraction(7), Fraction(100)}
    for rate, wake in depths:
        for lower, higher in depths:
            if lower < rate:
                meets.add(Fraction(higher - wake, rate - lower))
    ends = sorted(meets)
    return ends + [(low + high) / 2 for low, high in zip(ends, ends[1:])] + [ends[-1] + 1]


def plain_doze_cost(depths, length):
    """The cost on the words of point 31: by the depth in the middle of each stretch between two turns."""
    turns = [fraction(time) for time, _ in dozing(depths)]
    times = [time for time in turns if time < length] + [length]
    spent = Fraction(0)
    depth = 0
    for begin, end in zip(times, times[1:]):
        depth = asleep(depths, pair_of((begin + end) / 2))[1]
        spent += depths[depth][0] * (end - begin)
    return spent + depths[depth][1]


class AsleepTest(unittest.TestCase):
    def assert_asleep(self, depths, length, price, depth):
        self.assertEqual(asleep(depths, ratio(*length)), (ratio(*price), depth))

    def test_one_depth(self):
        self.assert_asleep(((3, 0),), (0,), (0,), 0)
        self.assert_asleep(((3, 0),), (5, 2), (15, 2), 0)
        self.assert_asleep(((0, 0),), (5, 2), (0,), 0)

    def test_a_length_of_0(self):
        self.assert_asleep(DEPTHS, (0,), (0,), 0)

    def test_integers_and_fractions(self):
        self.assert_asleep(DEPTHS, (1,), (5,), 0)
        self.assert_asleep(DEPTHS, (3,), (12,), 1)
        self.assert_asleep(DEPTHS, (10, 3), (38, 3), 1)
        self.assert_asleep(DEPTHS, (21, 4), (16,), 3)
        self.assert_asleep(DEPTHS, (1000000,), (16,), 3)

    def test_the_very_time_of_a_turn_has_the_first_depth(self):
        self.assert_asleep(DEPTHS, (2,), (10,), 0)
        self.assert_asleep(DEPTHS, (5,), (16,), 1)
        self.assert_asleep(((2, 0), (1, 1), (0, 2)), (1,), (2,), 0)

    def test_the_kinds_of_values(self):
        found = asleep(DEPTHS, (1, 2))
        self.assertEqual([type(found), type(found[0]), type(found[1])], [tuple, tuple, int])


class DozingTest(unittest.TestCase):
    def test_one_depth(self):
        self.assertEqual(dozing(((3, 0),)), (((0, 1), 0),))
        self.assertEqual(dozing(((0, 0),)), (((0, 1), 0),))

    def test_depths_that_are_never_of_use(self):
        self.assertEqual(dozing(DEPTHS), (((0, 1), 0), ((2, 1), 1), ((5, 1), 3)))
        six = ((10, 0), (9, 30), (8, 40), (5, 50), (4, 70), (1, 80))
        self.assertEqual(dozing(six), (((0, 1), 0), ((80, 9), 5)))

    def test_six_depths_that_are_all_of_use(self):
        six = tuple((5 - at, at * at) for at in range(6))
        self.assertEqual(dozing(six), (((0, 1), 0),) + tuple(((2 * at - 1, 1), at) for at in range(1, 6)))

    def test_times_that_are_fractions(self):
        self.assertEqual(dozing(((7, 0), (0, 3))), (((0, 1), 0), ((3, 7), 1)))
        self.assertEqual(dozing(((1000000, 0), (999999, 1000000))), (((0, 1), 0), ((1000000, 1), 1)))

    def test_three_lines_that_meet_in_one_point(self):
        self.assertEqual(dozing(((2, 0), (1, 1), (0, 2))), (((0, 1), 0), ((1, 1), 2)))
        self.assertEqual(dozing(((6, 0), (5, 2), (3, 6), (0, 12))), (((0, 1), 0), ((2, 1), 3)))

    def test_the_words_of_point_31(self):
        for depths in depth_lists(91, 200):
            pairs = dozing(depths)
            self.assertEqual(pairs[0], ((0, 1), 0))
            times = [fraction(time) for time, _ in pairs]
            self.assertEqual(times, sorted(set(times)))
            told = [depth for _, depth in pairs]
            self.assertEqual(told, sorted(set(told)))
            for length in lengths(depths):
                if length not in times:
                    expected = [depth for time, depth in pairs if fraction(time) < length][-1]
                    self.assertEqual(asleep(depths, pair_of(length))[1], expected, (depths, length))


class DozeCostTest(unittest.TestCase):
    def assert_cost(self, depths, length, *expected):
        self.assertEqual(doze_cost(depths, ratio(*length)), ratio(*expected))

    def test_one_depth(self):
        self.assert_cost(((3, 0),), (0,), 0)
        self.assert_cost(((3, 0),), (5, 2), 15, 2)

    def test_a_length_of_0(self):
        self.assert_cost(DEPTHS, (0,), 0)

    def test_behind_turns(self):
        self.assert_cost(DEPTHS, (1, 2), 5, 2)
        self.assert_cost(DEPTHS, (3,), 5 * 2 + 2 + 6)
        self.assert_cost(DEPTHS, (9, 2), 5 * 2 + 5 + 6)
        self.assert_cost(DEPTHS, (6,), 5 * 2 + 2 * 3 + 16)
        self.assert_cost(DEPTHS, (1000000,), 5 * 2 + 2 * 3 + 16)

    def test_at_the_very_time_of_a_turn_the_machine_is_in_the_depth_before(self):
        self.assert_cost(DEPTHS, (2,), 10)
        self.assert_cost(DEPTHS, (5,), 5 * 2 + 2 * 3 + 6)
        self.assert_cost(((2, 0), (1, 1), (0, 2)), (1,), 2)
        self.assert_cost(((2, 0), (1, 1), (0, 2)), (2,), 4)

    def test_a_last_rate_above_0(self):
        self.assert_cost(((3, 0), (1, 4)), (5,), 3 * 2 + 3 + 4)

    def test_at_most_twice_the_least_cost(self):
        for depths in depth_lists(92, 300):
            for length in lengths(depths):
                doze = fraction(doze_cost(depths, pair_of(length)))
                least = fraction(asleep(depths, pair_of(length))[0])
                self.assertLessEqual(least, doze)
                self.assertLessEqual(doze, 2 * least, (depths, length))
                self.assertEqual(doze, plain_doze_cost(depths, length), (depths, length))

    def test_twice_the_least_cost_is_nearly_spent(self):
        near = Fraction(2) + Fraction(1, 10**9)
        depths = ((5, 0), (0, 10))
        self.assertEqual(doze_cost(depths, pair_of(near)), (20, 1))
        self.assertEqual(asleep(depths, pair_of(near))[0], (10, 1))


class GapsTest(unittest.TestCase):
    def test_the_gaps_of_a_plan(self):
        # Point 32 says where a plan is idle: the lengths of the gaps are those that the depths are asked for.
        found = [minus(end, start) for start, end in gaps(BEST[:2], 0, 12)]
        self.assertEqual(found, [(8, 1)])
        self.assertEqual(asleep(DEPTHS, found[0]), ((16, 1), 3))
        self.assertEqual(doze_cost(DEPTHS, found[0]), (32, 1))


if __name__ == "__main__":
    unittest.main()
