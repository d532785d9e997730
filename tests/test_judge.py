"""Points 16 and 17: the judge."""

import copy
import unittest

from samples import BEST, EXAMPLE, fraction, fractions_of, job_lists, other_plan, piece, plan_from

from sparewatts.judge import better, is_least
from sparewatts.planner import best_plan
from sparewatts.plans import fault, tidy
from sparewatts.prices import cost

SQUARE = ("square",)


def plain_stretches(plan, begin, end):
    """The stretches of a time, found from the ends of the pieces in it."""
    ends = {begin, end} | {time for part in plan for time in part[:2] if begin < time < end}
    marks = sorted(ends)
    found = []
    for start, stop in zip(marks, marks[1:]):
        around = [part for part in plan if part[0] <= start and stop <= part[1]]
        name, speed = around[0][2:] if around else (None, 0)
        found.append((start, stop, name, speed))
    return found


def plain_pair(jobs, plan):
    """The piece p and the stretch q of point 17, or None."""
    windows = {job[0]: job[1:3] for job in jobs}
    for part in plan:
        slower = [row for row in plain_stretches(plan, *windows[part[2]]) if row[3] < part[3]]
        if slower:
            return part, slower[0]
    return None


def plain_better(jobs, plan):
    """The plan on the words of point 17, all cut up and put together again."""
    plan = fractions_of(plan)
    pair = plain_pair(jobs, plan)
    if pair is None:
        return None
    p, q = pair
    m = min(p[1] - p[0], q[1] - q[0])
    speed = (p[3] + q[3]) / 2
    marks = {p[0], p[0] + m, q[0], q[0] + m}
    pieces = [(p[0], p[0] + m, p[2], speed), (q[0] + m * q[3] / speed, q[0] + m, p[2], speed)]
    if q[2] is not None:
        pieces.append((q[0], q[0] + m * q[3] / speed, q[2], speed))
    for start, end, name, old in plan:
        cuts = sorted({start, end} | {mark for mark in marks if start < mark < end})
        for left, right in zip(cuts, cuts[1:]):
            if not (p[0] <= left < p[0] + m or q[0] <= left < q[0] + m):
                pieces.append((left, right, name, old))
    return tidy(plan_from(sorted(pieces)))


class IsLeastTest(unittest.TestCase):
    def test_the_example(self):
        self.assertIs(is_least(EXAMPLE, BEST), True)

    def test_the_empty_list(self):
        self.assertIs(is_least((), ()), True)
        self.assertIs(is_least((), BEST), False)
        self.assertIs(is_least(EXAMPLE, ()), False)

    def test_the_best_plan(self):
        for jobs in job_lists(41, 150) + job_lists(42, 20, most=12, span=40, work=30):
            self.assertIs(is_least(jobs, best_plan(jobs)), True, jobs)

    def test_another_order_at_the_same_speeds(self):
        jobs = (("a", 0, 4, 2), ("b", 0, 4, 2))
        self.assertIs(is_least(jobs, (piece(0, 2, "b", 1), piece(2, 4, "a", 1))), True)

    def test_a_plan_that_is_not_tidy(self):
        jobs = (("a", 0, 4, 4),)
        self.assertIs(is_least(jobs, (piece(0, 1, "a", 1), piece(1, 4, "a", 1))), True)

    def test_plans_that_do_not_do_the_list(self):
        jobs = (("a", 0, 4, 4),)
        self.assertIs(is_least(jobs, (piece(0, 4, "a", (1, 2)),)), False)
        self.assertIs(is_least(jobs, (piece(0, 4, "a", (3, 2)),)), False)
        self.assertIs(is_least(jobs, (piece(0, 5, "a", (4, 5)),)), False)
        self.assertIs(is_least(jobs, (piece(0, 4, "b", 1),)), False)
        self.assertIs(is_least(EXAMPLE, BEST[:2]), False)

    def test_a_piece_in_whose_window_the_machine_is_idle(self):
        jobs = (("a", 1, 4, 4),)
        self.assertIs(is_least(jobs, (piece(1, 3, "a", 2),)), False)
        self.assertIs(is_least(jobs, (piece(2, 4, "a", 2),)), False)
        self.assertIs(is_least(jobs, (piece(1, 2, "a", 2), piece(3, 4, "a", 2))), False)
        self.assertIs(is_least(jobs, (piece(1, 4, "a", (4, 3)),)), True)

    def test_a_piece_in_whose_window_the_machine_works_more_slowly(self):
        jobs = (("a", 0, 4, 6), ("b", 0, 8, 6))
        self.assertIs(is_least(jobs, (piece(0, 4, "a", (3, 2)), piece(4, 8, "b", (3, 2)))), True)
        self.assertIs(is_least(jobs, (piece(0, 3, "a", 2), piece(3, 4, "b", 2), piece(4, 8, "b", 1))), False)
        self.assertIs(is_least(jobs, (piece(0, 2, "b", 1), piece(2, 4, "a", 3), piece(4, 8, "b", 1))), False)

    def test_what_the_machine_does_outside_of_the_window_does_not_count(self):
        jobs = (("a", 2, 4, 6), ("b", 0, 8, 6))
        self.assertIs(is_least(jobs, (piece(0, 2, "b", 1), piece(2, 4, "a", 3), piece(4, 8, "b", 1))), True)
        self.assertIs(is_least((("a", 2, 4, 6),), (piece(2, 4, "a", 3),)), True)

    def test_only_the_last_piece_is_too_fast(self):
        jobs = (("a", 0, 2, 2), ("b", 2, 4, 2), ("c", 4, 8, 4))
        front = (piece(0, 2, "a", 1), piece(2, 4, "b", 1))
        self.assertIs(is_least(jobs, front + (piece(4, 8, "c", 1),)), True)
        self.assertIs(is_least(jobs, front + (piece(4, 6, "c", 2),)), False)

    def test_it_tells_the_plans_that_cost_as_little_as_the_best_one(self):
        for seed, jobs in enumerate(job_lists(43, 300, most=3, span=4, work=3)):
            plan = other_plan(jobs, seed)
            least = cost(best_plan(jobs), SQUARE, 0, 4)
            self.assertIs(is_least(jobs, plan), cost(plan, SQUARE, 0, 4) == least, (jobs, plan))


class BetterTest(unittest.TestCase):
    def assert_better(self, jobs, plan, *expected):
        self.assertIsNone(fault(jobs, plan))
        found = better(jobs, plan)
        self.assertEqual(found, tuple(expected))
        self.assertIs(type(found), tuple)

    def test_none_for_a_plan_of_least_cost(self):
        self.assertIsNone(better(EXAMPLE, BEST))
        self.assertIsNone(better((), ()))
        self.assertIsNone(better((("a", 0, 4, 2), ("b", 0, 4, 2)), (piece(0, 2, "b", 1), piece(2, 4, "a", 1))))

    def test_idle_in_front_and_p_shorter(self):
        jobs = (("a", 0, 10, 4),)
        self.assert_better(jobs, (piece(8, 10, "a", 2),), piece(0, 2, "a", 1), piece(8, 10, "a", 1))

    def test_idle_in_front_and_p_longer(self):
        jobs = (("a", 0, 3, 4),)
        self.assert_better(jobs, (piece(1, 3, "a", 2),), piece(0, 2, "a", 1), piece(2, 3, "a", 2))

    def test_idle_in_front_and_as_long(self):
        self.assert_better((("a", 0, 4, 4),), (piece(2, 4, "a", 2),), piece(0, 4, "a", 1))

    def test_idle_behind_and_p_shorter(self):
        self.assert_better((("a", 0, 10, 4),), (piece(0, 2, "a", 2),), piece(0, 4, "a", 1))

    def test_idle_behind_and_p_longer(self):
        expected = (piece(0, 1, "a", 1), piece(1, 2, "a", 2), piece(2, 3, "a", 1))
        self.assert_better((("a", 0, 3, 4),), (piece(0, 2, "a", 2),), *expected)

    def test_idle_behind_and_as_long(self):
        self.assert_better((("a", 0, 4, 4),), (piece(0, 2, "a", 2),), piece(0, 4, "a", 1))

    def test_idle_only_as_far_as_it_lies_in_the_window(self):
        self.assert_better((("a", 3, 5, 4),), (piece(4, 5, "a", 4),), piece(3, 5, "a", 2))
        self.assert_better((("a", 3, 5, 4),), (piece(3, 4, "a", 4),), piece(3, 5, "a", 2))

    def test_at_work_in_front_and_as_long(self):
        jobs = (("a", 0, 8, 12), ("b", 0, 8, 4))
        plan = (piece(0, 4, "b", 1), piece(4, 8, "a", 3))
        self.assert_better(jobs, plan, piece(0, 2, "b", 2), piece(2, 8, "a", 2))

    def test_at_work_behind_and_as_long(self):
        jobs = (("a", 0, 8, 12), ("b", 0, 8, 4))
        plan = (piece(0, 4, "a", 3), piece(4, 8, "b", 1))
        self.assert_better(jobs, plan, piece(0, 4, "a", 2), piece(4, 6, "b", 2), piece(6, 8, "a", 2))

    def test_at_work_behind_and_p_shorter(self):
        jobs = (("a", 0, 8, 6), ("b", 0, 8, 6))
        plan = (piece(0, 2, "a", 3), piece(2, 8, "b", 1))
        expected = (piece(0, 2, "a", 2), piece(2, 3, "b", 2), piece(3, 4, "a", 2), piece(4, 8, "b", 1))
        self.assert_better(jobs, plan, *expected)

    def test_at_work_in_front_and_p_shorter(self):
        jobs = (("a", 0, 8, 6), ("b", 0, 8, 6))
        plan = (piece(0, 6, "b", 1), piece(6, 8, "a", 3))
        expected = (piece(0, 1, "b", 2), piece(1, 2, "a", 2), piece(2, 6, "b", 1), piece(6, 8, "a", 2))
        self.assert_better(jobs, plan, *expected)

    def test_at_work_behind_and_p_longer(self):
        jobs = (("a", 0, 8, 18), ("b", 0, 8, 2))
        plan = (piece(0, 6, "a", 3), piece(6, 8, "b", 1))
        expected = (piece(0, 2, "a", 2), piece(2, 6, "a", 3), piece(6, 7, "b", 2), piece(7, 8, "a", 2))
        self.assert_better(jobs, plan, *expected)

    def test_at_work_in_front_and_p_longer(self):
        jobs = (("a", 0, 8, 18), ("b", 0, 8, 2))
        plan = (piece(0, 2, "b", 1), piece(2, 8, "a", 3))
        expected = (piece(0, 1, "b", 2), piece(1, 4, "a", 2), piece(4, 8, "a", 3))
        self.assert_better(jobs, plan, *expected)

    def test_a_change_that_is_no_integer(self):
        jobs = (("a", 0, 2, 2), ("b", 0, 2, 1))
        plan = (piece(0, 1, "b", 1), piece(1, 2, "a", 2))
        self.assert_better(jobs, plan, piece(0, (2, 3), "b", (3, 2)), piece((2, 3), 2, "a", (3, 2)))

    def test_a_stretch_at_work_only_as_far_as_it_lies_in_the_window(self):
        jobs = (("b", 0, 10, 10), ("a", 4, 8, 6))
        plan = (piece(0, 6, "b", 1), piece(6, 8, "a", 3), piece(8, 10, "b", 2))
        expected = (piece(0, 4, "b", 1), piece(4, 5, "b", 2), piece(5, 8, "a", 2), piece(8, 10, "b", 2))
        self.assert_better(jobs, plan, *expected)

    def test_a_stretch_of_the_same_job(self):
        jobs = (("a", 0, 6, 10),)
        plan = (piece(0, 4, "a", 1), piece(4, 6, "a", 3))
        self.assert_better(jobs, plan, piece(0, 2, "a", 2), piece(2, 4, "a", 1), piece(4, 6, "a", 2))

    def test_the_first_piece_not_the_fastest_one(self):
        jobs = (("a", 0, 3, 2), ("b", 3, 6, 8))
        plan = (piece(0, 1, "a", 2), piece(3, 4, "b", 8))
        self.assert_better(jobs, plan, piece(0, 2, "a", 1), piece(3, 4, "b", 8))

    def test_the_first_stretch_not_the_slowest_one(self):
        jobs = (("b", 0, 2, 4), ("c", 2, 4, 2), ("a", 0, 6, 6))
        plan = (piece(0, 2, "b", 2), piece(2, 4, "c", 1), piece(4, 6, "a", 3))
        change = (8, 5)
        expected = (
            piece(0, change, "b", (5, 2)),
            piece(change, 2, "a", (5, 2)),
            piece(2, 4, "c", 1),
            piece(4, 6, "a", (5, 2)),
        )
        self.assert_better(jobs, plan, *expected)

    def test_a_plan_that_is_not_tidy_is_taken_piece_by_piece(self):
        plan = (piece(0, 1, "a", 2), piece(1, 2, "a", 2))
        expected = (piece(0, 1, "a", 1), piece(1, 2, "a", 2), piece(2, 3, "a", 1))
        self.assert_better((("a", 0, 4, 4),), plan, *expected)

    def test_the_words_of_point_17(self):
        for seed, jobs in enumerate(job_lists(44, 300)):
            plan = other_plan(jobs, seed)
            self.assertEqual(better(jobs, plan), plain_better(jobs, plan), (jobs, plan))

    def test_it_does_the_list_is_tidy_and_costs_less(self):
        for seed, jobs in enumerate(job_lists(45, 60)):
            plan = other_plan(jobs, seed)
            for _ in range(4):
                found = better(jobs, plan)
                self.assertEqual(found is None, is_least(jobs, plan))
                if found is None:
                    break
                self.assertIsNone(fault(jobs, found))
                self.assertEqual(tidy(found), found)
                self.assertLess(fraction(cost(found, SQUARE, 0, 9)), fraction(cost(plan, SQUARE, 0, 9)))
                plan = found

    def test_the_plan_that_was_passed_stays_as_it_was(self):
        jobs = [("a", 0, 8, 6), ("b", 0, 8, 6)]
        plan = [piece(0, 6, "b", 1), piece(6, 8, "a", 3)]
        kept = copy.deepcopy((jobs, plan))
        better(jobs, plan)
        is_least(jobs, plan)
        self.assertEqual((jobs, plan), kept)


if __name__ == "__main__":
    unittest.main()
