"""Points 13 and 15: the best plan."""

import unittest
from fractions import Fraction

from samples import BEST, EXAMPLE, convex_tables, fraction, fractions_of, job_lists, other_plan, piece, plan_from

from sparewatts.planner import best_plan
from sparewatts.plans import fault, gaps, tidy
from sparewatts.prices import cost
from sparewatts.rounds import rounds

SQUARE = ("square",)


def round_of(found, time):
    """The round to which a time belongs, or None."""
    for row in found:
        for start, end in row[2]:
            if start <= time < end:
                return row
    return None


def plain_plan(jobs):
    """The plan on the words of point 13, from one change to the next one, with fractions."""
    found = rounds(jobs)
    left = {job[0]: Fraction(job[3]) for job in jobs}
    ends = {end for row in found for pair in row[2] for end in pair} | {job[1] for job in jobs}
    pieces = []
    time = Fraction(0)
    while any(left.values()):
        row = round_of(found, time)
        later = min(end for end in ends if end > time)
        if row is None:
            time = Fraction(later)
            continue
        fit = [job for job in jobs if job[0] in row[1] and job[1] <= time < job[2] and left[job[0]] > 0]
        name = min(fit, key=lambda job: (job[2], jobs.index(job)))[0]
        speed = fraction(row[0])
        end = min(later, time + left[name] / speed)
        pieces.append((time, end, name, speed))
        left[name] -= speed * (end - time)
        time = end
    return tidy(plan_from(pieces))


def done_until(plan, name, time):
    """The work that is done on a job until a time."""
    done = Fraction(0)
    for start, end, other, speed in fractions_of(plan):
        if other == name and start < time:
            done += speed * (min(end, time) - start)
    return done


class BestPlanTest(unittest.TestCase):
    def test_the_example(self):
        expected = (
            ((0, 1), (2, 1), "a", (5, 4)),
            ((2, 1), (4, 1), "b", (3, 1)),
            ((4, 1), (10, 1), "a", (5, 4)),
        )
        self.assertEqual(best_plan(EXAMPLE), expected)
        self.assertEqual(best_plan(EXAMPLE[::-1]), expected)
        self.assertEqual(BEST, expected)

    def test_the_empty_list(self):
        self.assertEqual(best_plan(()), ())

    def test_one_job(self):
        self.assertEqual(best_plan((("a", 3, 9, 4),)), (piece(3, 9, "a", (2, 3)),))

    def test_the_one_that_is_due_first(self):
        jobs = (("a", 0, 6, 4), ("b", 0, 4, 2))
        self.assertEqual(best_plan(jobs), (piece(0, 2, "b", 1), piece(2, 6, "a", 1)))

    def test_of_jobs_that_are_due_at_the_same_time_the_first_one_of_the_list(self):
        jobs = (("b", 0, 4, 3), ("a", 0, 4, 1), ("c", 0, 4, 4))
        self.assertEqual(best_plan(jobs), (piece(0, (3, 2), "b", 2), piece((3, 2), 2, "a", 2), piece(2, 4, "c", 2)))
        self.assertEqual(best_plan(jobs[::-1])[0], piece(0, 2, "c", 2))

    def test_the_first_one_of_the_list_takes_over_when_it_comes(self):
        jobs = (("b", 2, 4, 2), ("a", 0, 4, 6))
        self.assertEqual(best_plan(jobs), (piece(0, 2, "a", 2), piece(2, 3, "b", 2), piece(3, 4, "a", 2)))
        jobs = (("a", 0, 4, 6), ("b", 2, 4, 2))
        self.assertEqual(best_plan(jobs), (piece(0, 3, "a", 2), piece(3, 4, "b", 2)))

    def test_a_job_that_is_interrupted_in_its_own_round_and_goes_on(self):
        jobs = (("a", 0, 6, 4), ("b", 2, 4, 2))
        self.assertEqual(best_plan(jobs), (piece(0, 2, "a", 1), piece(2, 4, "b", 1), piece(4, 6, "a", 1)))

    def test_a_job_that_comes_and_does_not_interrupt_cuts_no_piece(self):
        jobs = (("a", 0, 6, 5), ("b", 1, 9, 4))
        self.assertEqual(best_plan(jobs), (piece(0, 5, "a", 1), piece(5, 9, "b", 1)))

    def test_an_idle_time_between_the_windows(self):
        jobs = (("b", 5, 7, 4), ("a", 1, 2, 2))
        self.assertEqual(best_plan(jobs), (piece(1, 2, "a", 2), piece(5, 7, "b", 2)))

    def test_a_round_in_several_pieces(self):
        jobs = (("a", 0, 12, 6), ("b", 2, 3, 5), ("c", 6, 8, 4))
        slow = (2, 3)
        expected = (
            piece(0, 2, "a", slow),
            piece(2, 3, "b", 5),
            piece(3, 6, "a", slow),
            piece(6, 8, "c", 2),
            piece(8, 12, "a", slow),
        )
        self.assertEqual(best_plan(jobs), expected)

    def test_twelve_jobs_in_one_window(self):
        jobs = tuple((name, 0, 12, 1) for name in "lkjihgfedcba")
        self.assertEqual(best_plan(jobs), tuple(piece(at, at + 1, jobs[at][0], 1) for at in range(12)))

    def test_the_words_of_point_13(self):
        for jobs in job_lists(31, 200) + job_lists(32, 30, most=12, span=24, work=9):
            self.assertEqual(best_plan(jobs), plain_plan(jobs), jobs)

    def test_it_does_the_list_and_is_tidy(self):
        for jobs in job_lists(33, 200) + job_lists(34, 30, most=12, span=10000, work=10000):
            plan = best_plan(jobs)
            self.assertIsNone(fault(jobs, plan), jobs)
            self.assertEqual(tidy(plan), plan)
            self.assertIs(type(plan), tuple)

    def test_the_machine_is_never_idle_while_a_job_has_come_and_is_not_done(self):
        for jobs in job_lists(35, 200) + job_lists(36, 30, most=12, span=40):
            plan = best_plan(jobs)
            for start, end in gaps(plan, 0, max(job[2] for job in jobs)):
                for name, comes, _, work in jobs:
                    if comes < fraction(end):
                        self.assertEqual(done_until(plan, name, fraction(start)), work)


class LeastCostTest(unittest.TestCase):
    def assert_least(self, jobs, rivals, prices):
        best = best_plan(jobs)
        for price in prices:
            least = fraction(cost(best, price, 0, 9))
            for rival in rivals:
                self.assertIsNone(fault(jobs, rival))
                self.assertLessEqual(least, fraction(cost(rival, price, 0, 9)), (jobs, rival, price))

    def test_by_the_square_and_by_tables(self):
        for at, jobs in enumerate(job_lists(37, 100)):
            rivals = [other_plan(jobs, seed) for seed in range(4)]
            self.assert_least(jobs, rivals, [SQUARE] + convex_tables(at, 4))

    def test_all_plans_that_work_with_whole_numbers_in_units_of_time(self):
        # Two jobs on two and three units of time: no row of whole amounts is cheaper.
        jobs = (("a", 0, 2, 4), ("b", 0, 3, 3))
        least = fraction(cost(best_plan(jobs), SQUARE, 0, 3))
        for a in range(5):
            for first in range(4):
                for second in range(4 - first):
                    units = (a + first, 4 - a + second, 3 - first - second)
                    self.assertLessEqual(least, sum(unit * unit for unit in units))
        self.assertEqual(least, Fraction(49, 3))


if __name__ == "__main__":
    unittest.main()
