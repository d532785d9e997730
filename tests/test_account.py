"""Point 29: the account of a runner beside a rival."""

import unittest
from fractions import Fraction

from samples import BEST, EXAMPLE, fraction, fractions_of, job_lists, other_plan, pair_of, piece

from sparewatts.account import account
from sparewatts.planner import best_plan
from sparewatts.prices import cost
from sparewatts.runner import Runner

SQUARE = ("square",)
DONE = (piece(0, 2, "a", 1), piece(2, 4, "b", 3), piece(4, 10, "a", (4, 3)))


def run(jobs):
    """The taken jobs and the plan of a runner to which these jobs come."""
    runner = Runner()
    for name, comes, due, work in sorted(jobs, key=lambda job: job[1]):
        runner.advance(comes)
        runner.offer(name, due, work)
    runner.advance(10000)
    return runner.taken(), runner.done()


def spent_until(plan, time):
    return sum((speed**2 * (min(end, time) - start) for start, end, _, speed in fractions_of(plan) if start < time), 0)


def left_at(jobs, plan, time):
    """The works that are left at a time, of the jobs that have come by then."""
    left = {}
    for name, comes, _, work in jobs:
        if comes <= time:
            pieces = [row for row in fractions_of(plan) if row[2] == name and row[0] < time]
            left[name] = work - sum(row[3] * (min(row[1], time) - row[0]) for row in pieces)
    return left


def plain_stretches(jobs, left, now):
    """The stretches (speed, end) of the course: the densest time from now on, then that behind it."""
    found = []
    while True:
        tried = []
        for b in {job[2] for job in jobs if job[2] > now}:
            load = sum(left.get(job[0], 0) for job in jobs if now < job[2] <= b)
            if load > 0:
                tried.append((load / (b - now), b))
        if not tried:
            return found
        found.append(max(tried))
        now = Fraction(found[-1][1])


def plain_account(jobs, done, rival):
    """The rows on the words of point 29, with fractions."""
    moments = {Fraction(0)} | {Fraction(job[1]) for job in jobs}
    moments |= {time for row in fractions_of(done) + fractions_of(rival) for time in row[:2]}
    rows = []
    for now in sorted(moments):
        left, rival_left = left_at(jobs, done, now), left_at(jobs, rival, now)
        store = Fraction(0)
        begin = now
        for speed, end in plain_stretches(jobs, left, now):
            names = [job[0] for job in jobs if job[0] in left and begin < job[2] <= end]
            store += sum(2 * speed * (left[name] - 2 * rival_left[name]) for name in names)
            begin = end
        rows.append((now, Fraction(spent_until(done, now)), Fraction(spent_until(rival, now)), store))
    return tuple(tuple(pair_of(part) for part in row) for row in rows)


class AccountTest(unittest.TestCase):
    def assert_bounds(self, jobs, done, rival, rows):
        margins = [fraction(spent) + fraction(left) - 4 * fraction(other) for _, spent, other, left in rows]
        self.assertLessEqual(max(margins), 0)
        self.assertEqual(margins, sorted(margins, reverse=True), (jobs, rival))
        times = [fraction(row[0]) for row in rows]
        self.assertEqual(times, sorted(set(times)))
        self.assertEqual(rows[0][0], (0, 1))
        self.assertEqual(rows[-1][1:3], (cost(done, SQUARE, 0, 10000), cost(rival, SQUARE, 0, 10000)))
        self.assertEqual(rows[-1][3], (0, 1))

    def test_the_example_against_its_best_plan(self):
        # At 0: the course has the speed 1 until 10, and both have 10 left: 2 * 1 * (10 - 20).
        # At 2: 3 until 4, with 6 and 6 left: 2 * 3 * (6 - 12); then 4/3 until 10, with 8 and 15/2 left.
        # At 4: 4/3 until 10, with 8 and 15/2 left: 2 * 4/3 * (8 - 15).
        expected = (
            ((0, 1), (0, 1), (0, 1), (-20, 1)),
            ((2, 1), (2, 1), (25, 8), (-164, 3)),
            ((4, 1), (20, 1), (169, 8), (-56, 3)),
            ((10, 1), (92, 3), (61, 2), (0, 1)),
        )
        self.assertEqual(account(EXAMPLE, DONE, BEST), expected)
        self.assertEqual(run(EXAMPLE), (EXAMPLE, DONE))
        self.assert_bounds(EXAMPLE, DONE, BEST, expected)

    def test_the_empty_list(self):
        self.assertEqual(account((), (), ()), (((0, 1), (0, 1), (0, 1), (0, 1)),))

    def test_the_kinds_of_values(self):
        rows = account(EXAMPLE, DONE, BEST)
        self.assertIs(type(rows), tuple)
        for row in rows:
            self.assertEqual([type(part) for part in row], [tuple] * 4)
            self.assertIs(type(row), tuple)

    def test_nothing_comes_at_time_0(self):
        jobs = (("a", 3, 5, 4),)
        expected = (
            ((0, 1), (0, 1), (0, 1), (0, 1)),
            ((3, 1), (0, 1), (0, 1), (-16, 1)),
            ((5, 1), (8, 1), (8, 1), (0, 1)),
        )
        self.assertEqual(account(jobs, best_plan(jobs), best_plan(jobs)), expected)

    def test_a_row_for_each_coming_and_each_end_of_a_piece_of_either_plan(self):
        jobs = (("a", 0, 6, 6), ("b", 1, 9, 3))
        done = run(jobs)[1]
        rival = (piece((1, 2), (5, 2), "a", 3), piece(4, (13, 3), "b", 9))
        times = [row[0] for row in account(jobs, done, rival)]
        self.assertEqual(times, [(0, 1), (1, 2), (1, 1), (5, 2), (4, 1), (13, 3), (6, 1), (9, 1)])

    def test_a_store_at_a_time_that_is_a_fraction(self):
        jobs = (("a", 0, 6, 6),)
        rival = (piece((1, 2), (5, 2), "a", 3),)
        rows = account(jobs, best_plan(jobs), rival)
        expected = (
            ((0, 1), (0, 1), (0, 1), (-12, 1)),
            ((1, 2), (1, 2), (0, 1), (-13, 1)),
            ((5, 2), (5, 2), (18, 1), (7, 1)),
            ((6, 1), (6, 1), (18, 1), (0, 1)),
        )
        self.assertEqual(rows, expected)

    def test_a_job_that_only_the_rival_has_left(self):
        # At 2 the runner has done a, which is due at 4, and the rival has not begun it.
        jobs = (("a", 0, 4, 2), ("b", 0, 8, 6))
        rival = (piece(0, 2, "b", 3), piece(2, 3, "a", 2))
        rows = account(jobs, best_plan(jobs), rival)
        self.assertEqual(rows[1], ((2, 1), (2, 1), (18, 1), (2 * (6 - 2 * 2), 1)))

    def test_jobs_that_have_not_come_do_not_count(self):
        jobs = (("a", 0, 4, 4), ("b", 2, 4, 100))
        self.assertEqual(account(jobs, run(jobs)[1], best_plan(jobs))[0][3], (-8, 1))

    def test_the_order_of_the_list_is_that_in_which_the_jobs_were_taken(self):
        jobs = (("b", 0, 4, 1), ("a", 0, 4, 3))
        taken, done = run(jobs)
        self.assertEqual(taken, jobs)
        self.assertEqual([row[0] for row in account(jobs, done, done)], [(0, 1), (1, 1), (4, 1)])

    def test_the_words_of_point_29(self):
        for at, jobs in enumerate(job_lists(71, 120, most=7, span=16)):
            taken, done = run(jobs)
            for rival in (best_plan(taken), done, other_plan(taken, at)):
                rows = account(taken, done, rival)
                self.assertEqual(rows, plain_account(taken, done, rival), (taken, rival))
                self.assert_bounds(taken, done, rival, rows)

    def test_great_numbers(self):
        for at, jobs in enumerate(job_lists(72, 8, most=12, span=10000, work=10000)):
            taken, done = run(jobs)
            for rival in (best_plan(taken), other_plan(taken, at)):
                rows = account(taken, done, rival)
                self.assertEqual(rows, plain_account(taken, done, rival))
                self.assert_bounds(taken, done, rival, rows)

    def test_much_that_comes_late(self):
        jobs = tuple((name, at * 5, 60, 10000 // (12 - at)) for at, name in enumerate("abcdefghijkl"))
        taken, done = run(jobs)
        rows = account(taken, done, best_plan(taken))
        self.assert_bounds(taken, done, best_plan(taken), rows)


if __name__ == "__main__":
    unittest.main()
