"""Points 18 and 19: tariffs."""

import random
import unittest
from fractions import Fraction

from samples import BEST, EXAMPLE, fraction, fractions_of, job_lists, other_plan, pair_of, piece, plan_from

from sparewatts.planner import best_plan
from sparewatts.plans import fault, tidy
from sparewatts.prices import cost
from sparewatts.tariffs import tariff_cost, tariff_plan

SQUARE = ("square",)
PLAIN = ((0, 1),)


def tariffs(seed, many, span=12):
    """Tariffs of 1 to 8 pairs, some of whose starts lie behind all windows; equal factors are frequent."""
    chance = random.Random(seed)
    found = []
    for _ in range(many):
        starts = [0] + sorted(chance.sample(range(1, span), chance.randint(0, 7)))
        factors = chance.sample(range(1, 11), 3)
        found.append(tuple((start, chance.choice(factors)) for start in starts))
    return found


def factor_at(tariff, unit):
    """The factor of the unit of time that starts here."""
    return [factor for start, factor in tariff if start <= unit][-1]


def plain_cost(plan, tariff, begin, end):
    """The cost unit by unit."""
    spent = Fraction(0)
    for unit in range(begin, end):
        for start, stop, _, speed in fractions_of(plan):
            length = min(stop, unit + 1) - max(start, unit)
            if length > 0:
                spent += factor_at(tariff, unit) * speed**2 * length
    return spent


def plain_plan(jobs, tariff):
    """The plan on the words of point 19, with each unit of time by itself."""
    latest = max([job[2] for job in jobs], default=0)
    marks = [0]
    for unit in range(latest):
        marks.append(marks[-1] + 2520 // factor_at(tariff, unit))
    best = best_plan(tuple((name, marks[comes], marks[due], work) for name, comes, due, work in jobs))
    pieces = []
    for unit in range(latest):
        low, high = marks[unit], marks[unit + 1]
        for start, end, name, speed in fractions_of(best):
            first, last = max(start, low), min(end, high)
            if first < last:
                back = [unit + Fraction(moment - low) / (high - low) for moment in (first, last)]
                pieces.append((back[0], back[1], name, speed * (high - low)))
    return tidy(plan_from(pieces))


class TariffCostTest(unittest.TestCase):
    PLAN = (piece(2, 4, "a", 1), piece(4, (9, 2), "b", 3), piece(6, 8, "a", (1, 2)))

    def assert_cost(self, tariff, begin, end, *expected):
        self.assertEqual(tariff_cost(self.PLAN, tariff, begin, end), pair_of(Fraction(*expected)))

    def test_one_factor(self):
        self.assert_cost(PLAIN, 0, 9, 2 + Fraction(9, 2) + Fraction(1, 2))
        self.assert_cost(((0, 10),), 0, 9, 70)
        for begin in range(9):
            for end in range(begin, 10):
                self.assertEqual(tariff_cost(self.PLAN, PLAIN, begin, end), cost(self.PLAN, SQUARE, begin, end))

    def test_pieces_over_several_times_of_the_tariff(self):
        tariff = ((0, 2), (3, 5), (4, 1), (7, 3))
        self.assert_cost(tariff, 0, 9, 2 + 5 + Fraction(9, 2) + Fraction(1, 4) + Fraction(3, 4))
        plan = (piece((1, 2), (7, 2), "a", 2),)
        self.assertEqual(tariff_cost(plan, ((0, 1), (1, 2), (2, 3), (3, 4)), 0, 9), (4 * 5 + 2 + 8, 1))

    def test_pieces_partly_and_wholly_outside_of_the_time(self):
        tariff = ((0, 2), (3, 5), (4, 1), (7, 3))
        self.assert_cost(tariff, 3, 7, 5 + Fraction(9, 2) + Fraction(1, 4))
        self.assert_cost(tariff, 5, 6, 0)
        self.assert_cost(tariff, 7, 8, 3, 4)
        self.assert_cost(tariff, 100, 200, 0)

    def test_no_time(self):
        for time in (0, 2, 3, 4, 8, 20):
            self.assert_cost(((0, 2), (3, 5)), time, time, 0)

    def test_the_empty_plan(self):
        self.assertEqual(tariff_cost((), ((0, 2), (3, 5)), 0, 9), (0, 1))

    def test_starts_behind_the_time(self):
        self.assert_cost(((0, 1), (9, 2), (10000, 10)), 0, 9, 7)
        self.assertEqual(tariff_cost((piece(9999, 10001, "a", 1),), ((0, 1), (10000, 10)), 0, 10002), (11, 1))

    def test_the_words_of_point_18(self):
        chance = random.Random(81)
        for at, tariff in enumerate(tariffs(82, 100)):
            plan = other_plan(job_lists(at, 1)[0], at)
            begin, end = sorted(chance.randint(0, 14) for _ in range(2))
            self.assertEqual(fraction(tariff_cost(plan, tariff, begin, end)), plain_cost(plan, tariff, begin, end))


class TariffPlanTest(unittest.TestCase):
    def test_one_factor_and_equal_factors(self):
        for tariff in (PLAIN, ((0, 7),), ((0, 3), (1, 3), (5, 3), (10000, 3))):
            self.assertEqual(tariff_plan(EXAMPLE, tariff), BEST)
            for jobs in job_lists(83, 20):
                self.assertEqual(tariff_plan(jobs, tariff), best_plan(jobs))

    def test_a_window_over_two_factors(self):
        # The speeds are as 2 to 1: what is fast costs half as much.
        self.assertEqual(tariff_plan((("a", 0, 4, 6),), ((0, 1), (2, 2))), (piece(0, 2, "a", 2), piece(2, 4, "a", 1)))

    def test_a_window_that_begins_and_ends_at_starts_of_the_tariff(self):
        tariff = ((0, 1), (2, 2), (4, 3))
        self.assertEqual(tariff_plan((("a", 2, 4, 3),), tariff), (piece(2, 4, "a", (3, 2)),))
        expected = (piece(0, 2, "a", 1), piece(4, 5, "b", 2))
        self.assertEqual(tariff_plan((("a", 0, 2, 2), ("b", 4, 5, 2)), tariff), expected)

    def test_a_window_that_lies_over_several_factors(self):
        # The speeds are 6 / factor at all times: 6 + 3 + 2 + 1 for a unit of time of each.
        tariff = ((0, 10), (1, 1), (2, 2), (3, 3), (4, 6), (5, 9))
        found = tariff_plan((("a", 1, 5, 12),), tariff)
        self.assertEqual(found, tuple(piece(at, at + 1, "a", speed) for at, speed in ((1, 6), (2, 3), (3, 2), (4, 1))))

    def test_jobs_that_change_in_the_middle_of_a_unit_of_time(self):
        found = tariff_plan((("a", 0, 2, 1), ("b", 0, 2, 2)), ((0, 1), (1, 2)))
        self.assertEqual(found, (piece(0, (1, 2), "a", 2), piece((1, 2), 1, "b", 2), piece(1, 2, "b", 1)))

    def test_equal_factors_side_by_side_cut_no_piece(self):
        tariff = ((0, 2), (1, 2), (2, 1), (3, 1))
        self.assertEqual(tariff_plan((("a", 0, 4, 6),), tariff), (piece(0, 2, "a", 1), piece(2, 4, "a", 2)))

    def test_equal_speeds_of_two_jobs_stay_two_pieces(self):
        found = tariff_plan((("a", 0, 1, 2), ("b", 1, 2, 2)), ((0, 1), (1, 2)))
        self.assertEqual(found, (piece(0, 1, "a", 2), piece(1, 2, "b", 2)))

    def test_eight_times(self):
        tariff = tuple((at * 3, at % 10 + 1) for at in range(8))
        jobs = (("a", 0, 30, 90), ("b", 5, 13, 17), ("c", 20, 22, 40))
        found = tariff_plan(jobs, tariff)
        self.assertEqual(found, plain_plan(jobs, tariff))
        self.assertIsNone(fault(jobs, found))

    def test_starts_at_10000_and_behind_all_windows(self):
        for tariff in (((0, 4), (10, 2), (10000, 3)), ((0, 1), (9999, 5), (10000, 10))):
            self.assertEqual(tariff_plan(EXAMPLE, tariff), BEST)
        jobs = (("a", 9998, 10000, 3),)
        expected = (piece(9998, 9999, "a", 2), piece(9999, 10000, "a", 1))
        self.assertEqual(tariff_plan(jobs, ((0, 1), (9999, 2), (10000, 10))), expected)

    def test_the_empty_list(self):
        self.assertEqual(tariff_plan((), PLAIN), ())
        self.assertEqual(tariff_plan((), ((0, 2), (5, 3))), ())

    def test_it_does_the_list_is_tidy_and_costs_least(self):
        for at, jobs in enumerate(job_lists(84, 150)):
            tariff = tariffs(at, 1)[0]
            found = tariff_plan(jobs, tariff)
            self.assertIsNone(fault(jobs, found))
            self.assertEqual(tidy(found), found)
            self.assertEqual(found, plain_plan(jobs, tariff), (jobs, tariff))
            least = fraction(tariff_cost(found, tariff, 0, 12))
            for rival in [best_plan(jobs)] + [other_plan(jobs, seed) for seed in range(4)]:
                self.assertLessEqual(least, fraction(tariff_cost(rival, tariff, 0, 12)), (jobs, tariff))

    def test_great_numbers(self):
        for at, jobs in enumerate(job_lists(85, 6, most=12, span=10000, work=10000)):
            tariff = tariffs(at, 1, span=10001)[0]
            found = tariff_plan(jobs, tariff)
            self.assertIsNone(fault(jobs, found))
            least = fraction(tariff_cost(found, tariff, 0, 10000))
            for rival in (best_plan(jobs), other_plan(jobs, at)):
                self.assertLessEqual(least, fraction(tariff_cost(rival, tariff, 0, 10000)))

    def test_factors_beyond_the_limit(self):
        found = tariff_plan((("a", 0, 2, 12),), ((0, 1), (1, 11)))
        self.assertEqual(found, (piece(0, 1, "a", 11), piece(1, 2, "a", 1)))


if __name__ == "__main__":
    unittest.main()
