"""Points 22, 23 and 24: machines with fixed speeds."""

import random
import unittest
from fractions import Fraction

from samples import EXAMPLE, fraction, fractions_of, job_lists, other_plan, pair_of, piece, plan_from

from sparewatts.errors import TooFast
from sparewatts.levels import level_cost, leveled, useful
from sparewatts.planner import best_plan
from sparewatts.plans import fault, tidy
from sparewatts.rounds import peak

# By these costs the speeds 1 and 5 are not useful: 1 is above the line from 0 to 2, and 5 on that from 3 to 6.
LEVELS = ((0, 0), (1, 3), (2, 4), (3, 7), (5, 15), (6, 19))


def level_lists(seed, many):
    """Levels of 2 to 8 pairs, also with costs that fall."""
    chance = random.Random(seed)
    found = []
    for _ in range(many):
        speeds = sorted(chance.sample(range(1, 12), chance.randint(1, 7)))
        found.append(tuple((speed, chance.randint(0, 12)) for speed in [0] + speeds))
    return found


def on_line(slow, fast, speed):
    """The cost at the speed on the straight line between two levels, as a fraction."""
    return slow[1] + Fraction(fast[1] - slow[1], fast[0] - slow[0]) * (speed - slow[0])


def least_mixture(levels, speed):
    """The least cost of a speed by a level or a mixture of two, or None if the speed is too great."""
    costs = [Fraction(level[1]) for level in levels if level[0] == speed]
    for slow in levels:
        for fast in levels:
            if slow[0] < speed < fast[0]:
                costs.append(on_line(slow, fast, speed))
    return min(costs, default=None)


def with_some_levels(plan, levels, chance):
    """The work of the plan, in the same times, by mixtures of two levels each, as chance wants it."""
    pieces = []
    for start, end, name, speed in fractions_of(plan):
        slow = chance.choice([level[0] for level in levels if level[0] < speed] or [None])
        fast = chance.choice([level[0] for level in levels if level[0] >= speed] or [None])
        if slow is None or fast is None:
            return None
        change = start + (end - start) * (speed - slow) / (fast - slow)
        pieces.append((start, change, name, Fraction(fast)))
        if 0 < slow and change < end:
            pieces.append((change, end, name, Fraction(slow)))
    return plan_from(pieces)


class UsefulTest(unittest.TestCase):
    def test_above_the_line_and_on_the_line(self):
        self.assertEqual(useful(LEVELS), ((0, 0), (2, 4), (3, 7), (6, 19)))
        self.assertEqual(useful(((0, 0), (1, 1), (2, 2))), ((0, 0), (2, 2)))
        self.assertEqual(useful(((0, 0), (1, 2), (2, 2))), ((0, 0), (2, 2)))
        self.assertEqual(useful(((0, 0), (1, 1), (2, 3))), ((0, 0), (1, 1), (2, 3)))

    def test_the_line_between_levels_that_are_not_integers(self):
        self.assertEqual(useful(((0, 0), (1, 1), (3, 4))), ((0, 0), (1, 1), (3, 4)))
        self.assertEqual(useful(((0, 0), (1, 2), (3, 4))), ((0, 0), (3, 4)))
        self.assertEqual(useful(((0, 0), (2, 3), (3, 4))), ((0, 0), (3, 4)))

    def test_several_in_a_row(self):
        self.assertEqual(useful(((0, 0), (1, 9), (2, 8), (3, 7), (4, 4))), ((0, 0), (4, 4)))
        self.assertEqual(useful(((0, 0), (1, 1), (2, 2), (3, 3), (4, 4))), ((0, 0), (4, 4)))

    def test_a_level_that_only_levels_far_away_make_useless(self):
        # 3 is below the line between its neighbours, but not below the one from 0 to 5.
        self.assertEqual(useful(((0, 0), (2, 20), (3, 12), (4, 20), (5, 15))), ((0, 0), (5, 15)))

    def test_the_first_and_the_last_one_are_useful_whatever_they_cost(self):
        self.assertEqual(useful(((0, 1000000), (1, 0), (1000000, 1000000))), ((0, 1000000), (1, 0), (1000000, 1000000)))
        self.assertEqual(useful(((0, 5), (7, 1))), ((0, 5), (7, 1)))
        self.assertEqual(useful(((0, 0), (1, 0))), ((0, 0), (1, 0)))

    def test_costs_that_fall(self):
        self.assertEqual(useful(((0, 9), (1, 4), (2, 1), (3, 0))), ((0, 9), (1, 4), (2, 1), (3, 0)))
        self.assertEqual(useful(((0, 9), (1, 8), (2, 1), (3, 0))), ((0, 9), (2, 1), (3, 0)))

    def test_the_words_of_point_22(self):
        for levels in level_lists(51, 300):
            expected = [levels[0]]
            for at in range(1, len(levels) - 1):
                level = levels[at]
                lines = [on_line(slow, fast, level[0]) for slow in levels[:at] for fast in levels[at + 1 :]]
                if level[1] < min(lines):
                    expected.append(level)
            self.assertEqual(useful(levels), tuple(expected) + (levels[-1],))


class LeveledTest(unittest.TestCase):
    def test_the_speed_of_a_useful_level(self):
        plan = (piece(0, 2, "a", 2), piece(3, 4, "b", 6), piece(4, 5, "a", 3))
        self.assertEqual(leveled(plan, LEVELS), plan)

    def test_the_speed_of_a_level_that_is_not_useful(self):
        plan = (piece(0, 3, "a", 5), piece(4, 6, "b", 1))
        expected = (piece(0, 2, "a", 6), piece(2, 3, "a", 3), piece(4, 5, "b", 2))
        self.assertEqual(leveled(plan, LEVELS), expected)

    def test_below_the_first_level_above_0_the_machine_is_idle_afterwards(self):
        plan = (piece(1, 5, "a", (1, 2)), piece(5, 6, "a", 2))
        self.assertEqual(leveled(plan, LEVELS), (piece(1, 2, "a", 2), piece(5, 6, "a", 2)))

    def test_between_two_levels_the_faster_one_comes_first(self):
        plan = (piece(0, 4, "a", (9, 4)),)
        self.assertEqual(leveled(plan, LEVELS), (piece(0, 1, "a", 3), piece(1, 4, "a", 2)))

    def test_two_levels(self):
        plan = (piece(0, 4, "a", (3, 2)), piece(4, 6, "b", 4))
        self.assertEqual(leveled(plan, ((0, 9), (4, 1))), (piece(0, (3, 2), "a", 4), piece(4, 6, "b", 4)))

    def test_times_that_are_fractions(self):
        plan = (piece((1, 3), (5, 6), "a", (7, 3)),)
        self.assertEqual(leveled(plan, LEVELS), (piece((1, 3), (1, 2), "a", 3), piece((1, 2), (5, 6), "a", 2)))

    def test_too_fast(self):
        for plan, index in (
            ((piece(0, 1, "a", 7),), 0),
            ((piece(0, 1, "a", 6), piece(1, 2, "b", (601, 100)), piece(2, 3, "a", 9)), 1),
            ((piece(0, 1, "a", 1), piece(1, 2, "b", 2), piece(2, 3, "a", 7)), 2),
        ):
            with self.assertRaises(TooFast) as caught:
                leveled(plan, LEVELS)
            self.assertEqual(caught.exception.index, index)

    def test_the_result_is_tidy(self):
        plan = (piece(0, 2, "a", (5, 2)), piece(2, 3, "a", 2), piece(3, 4, "a", 2), piece(4, 5, "b", 2))
        self.assertEqual(leveled(plan, LEVELS), (piece(0, 1, "a", 3), piece(1, 4, "a", 2), piece(4, 5, "b", 2)))

    def test_the_empty_plan(self):
        self.assertEqual(leveled((), LEVELS), ())
        self.assertIs(type(leveled((), LEVELS)), tuple)

    def test_the_same_work_in_the_same_time(self):
        for at, jobs in enumerate(job_lists(52, 60)):
            levels = level_lists(at, 1)[0] + ((5000, 9),)
            for plan in (best_plan(jobs), other_plan(jobs, at)):
                found = leveled(plan, levels)
                self.assertEqual(tidy(found), found)
                self.assertIsNone(fault(jobs, found))
                self.assertLessEqual({row[3] for row in found}, {(speed, 1) for speed, _ in useful(levels)})
                for start, end, name, speed in fractions_of(plan):
                    inside = [row for row in fractions_of(found) if start < row[1] and row[0] < end]
                    self.assertEqual({row[2] for row in inside}, {name})
                    works = [row[3] * (min(row[1], end) - max(row[0], start)) for row in inside]
                    self.assertEqual(sum(works), speed * (end - start))


class LevelCostTest(unittest.TestCase):
    PLAN = (piece(2, 4, "a", 1), piece(4, (9, 2), "b", 3), piece(6, 8, "a", 1))
    COSTS = ((0, 5), (1, 2), (3, 20))

    def assert_cost(self, begin, end, *expected):
        self.assertEqual(level_cost(self.PLAN, self.COSTS, begin, end), pair_of(Fraction(*expected)))

    def test_idle_times_in_front_of_between_and_behind_the_pieces(self):
        self.assert_cost(0, 10, 5 * 2 + 2 * 2 + 10 + 5 * Fraction(3, 2) + 2 * 2 + 5 * 2)

    def test_pieces_partly_in_the_time(self):
        self.assert_cost(3, 7, 2 + 10 + 5 * Fraction(3, 2) + 2)
        self.assert_cost(7, 9, 2 + 5)

    def test_pieces_outside_of_the_time(self):
        self.assert_cost(5, 6, 5)
        self.assert_cost(0, 1, 5)
        self.assert_cost(10, 20, 50)

    def test_no_time(self):
        for time in (0, 2, 3, 4, 8, 20):
            self.assert_cost(time, time, 0)

    def test_the_empty_plan(self):
        self.assertEqual(level_cost((), self.COSTS, 1, 4), (15, 1))

    def test_a_level_that_is_not_useful(self):
        plan = (piece(0, 1, "a", 1),)
        self.assertEqual(level_cost(plan, LEVELS, 0, 1), (3, 1))


class LeastLevelCostTest(unittest.TestCase):
    def test_the_example(self):
        levels = ((0, 1), (1, 2), (2, 4), (4, 12))
        found = leveled(best_plan(EXAMPLE), levels)
        expected = (
            piece(0, (1, 2), "a", 2),
            piece((1, 2), 2, "a", 1),
            piece(2, 3, "b", 4),
            piece(3, 4, "b", 2),
            piece(4, (11, 2), "a", 2),
            piece((11, 2), 10, "a", 1),
        )
        self.assertEqual(found, expected)
        self.assertEqual(level_cost(found, levels, 0, 10), (4 * 2 + 12 + 4 + 6 * 2, 1))

    def test_no_plan_with_speeds_of_levels_costs_less(self):
        chance = random.Random(53)
        tried = 0
        for at, jobs in enumerate(job_lists(54, 150)):
            levels = level_lists(at, 1)[0]
            best = best_plan(jobs)
            if levels[-1][0] < fraction(peak(jobs)[0]):
                with self.assertRaises(TooFast):
                    leveled(best, levels)
                continue
            least = leveled(best, levels)
            self.assertIsNone(fault(jobs, least))
            for seed in range(6):
                rival = with_some_levels(other_plan(jobs, seed), levels, chance)
                if rival is not None:
                    tried += 1
                    self.assertIsNone(fault(jobs, rival))
                    costs = [fraction(level_cost(plan, levels, 0, 9)) for plan in (least, rival)]
                    self.assertLessEqual(costs[0], costs[1], (jobs, levels, rival))
        self.assertGreater(tried, 100)

    def test_the_cost_is_that_of_the_least_mixtures(self):
        for at, jobs in enumerate(job_lists(55, 100)):
            levels = level_lists(at, 1)[0]
            best = best_plan(jobs)
            costs = [least_mixture(levels, row[3]) for row in fractions_of(best)]
            if None in costs:
                continue
            lengths = [row[1] - row[0] for row in fractions_of(best)]
            expected = sum(price * length for price, length in zip(costs, lengths))
            expected += levels[0][1] * (9 - sum(lengths))
            self.assertEqual(fraction(level_cost(leveled(best, levels), levels, 0, 9)), expected)


if __name__ == "__main__":
    unittest.main()
