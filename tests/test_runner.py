"""Points 25 to 28, and the lines of point 33: the runner."""

import random
import unittest
from fractions import Fraction
from math import lcm

from samples import fraction, fractions_of, job_lists, piece, plan_from

from sparewatts.errors import Refused
from sparewatts.planner import best_plan
from sparewatts.plans import fault, tidy
from sparewatts.prices import cost
from sparewatts.runner import Runner

SQUARE = ("square",)


def runner_of(*calls, cap=None):
    """A runner to which these calls have happened: a time to advance to, or (name, due, work)."""
    runner = Runner() if cap is None else Runner(cap)
    for call in calls:
        if isinstance(call, int):
            runner.advance(call)
        else:
            runner.offer(*call)
    return runner


def state(runner):
    parts = (runner.time(), runner.taken(), runner.left(), runner.done(), runner.course())
    return parts + (tuple(runner.lines()),)


def plain_course(waiting, now):
    """The best plan of (name, due, left work with a fraction) from now on, by a list of whole works."""
    unit = lcm(1, *[work.denominator for _, _, work in waiting])
    jobs = tuple((name, now, due, int(work * unit)) for name, due, work in waiting if work > 0)
    pieces = [(start, end, name, speed / unit) for start, end, name, speed in fractions_of(best_plan(jobs))]
    return plan_from(pieces)


def waiting_of(runner):
    return [(job[0], job[2], fraction(left)) for job, left in zip(runner.taken(), runner.left())]


def plain_answer(runner, name, due, work, cap):
    """The answer of an offer on the words of point 26: each integer behind the time is tried."""
    now = runner.time()
    waiting = waiting_of(runner) + [(name, due, Fraction(work))]
    if all(row[3] <= cap for row in fractions_of(plain_course(waiting, now))):
        return None
    b = now + 1
    while sum(row[2] for row in waiting if row[1] <= b) <= cap * (b - now):
        b += 1
    return b


class ExampleTest(unittest.TestCase):
    def test_the_example_of_point_35(self):
        runner = Runner()
        self.assertIsNone(runner.offer("a", 10, 10))
        self.assertEqual(runner.course(), (piece(0, 10, "a", 1),))
        self.assertIsNone(runner.advance(2))
        self.assertEqual(runner.done(), (piece(0, 2, "a", 1),))
        self.assertEqual(runner.left(), ((8, 1),))
        self.assertIsNone(runner.offer("b", 4, 6))
        self.assertEqual(runner.left(), ((8, 1), (6, 1)))
        self.assertEqual(runner.course(), (piece(2, 4, "b", 3), piece(4, 10, "a", (4, 3))))
        self.assertEqual(runner.done(), (piece(0, 2, "a", 1),))
        runner.advance(4)
        self.assertEqual(runner.left(), ((8, 1), (0, 1)))
        runner.advance(10)
        done = (piece(0, 2, "a", 1), piece(2, 4, "b", 3), piece(4, 10, "a", (4, 3)))
        self.assertEqual(runner.done(), done)
        self.assertEqual(runner.course(), ())
        self.assertEqual(runner.left(), ((0, 1), (0, 1)))
        self.assertEqual(runner.taken(), (("a", 0, 10, 10), ("b", 2, 4, 6)))
        self.assertEqual(cost(done, SQUARE, 0, 10), (92, 3))


class StateTest(unittest.TestCase):
    def test_a_new_runner(self):
        for runner in (Runner(), Runner(5), Runner(cap=None)):
            self.assertEqual(state(runner)[:-1], (0, (), (), (), ()))

    def test_the_kinds_of_values(self):
        runner = runner_of(("a", 9, 4), 3)
        for found in state(runner)[1:5]:
            self.assertIs(type(found), tuple)
        self.assertIs(type(runner.time()), int)
        self.assertIs(type(runner.lines()), list)

    def test_a_runner_that_is_idle(self):
        runner = runner_of(5, ("a", 7, 4), 6, 9, ("b", 10, 1), 10000)
        self.assertEqual(runner.done(), (piece(5, 7, "a", 2), piece(9, 10, "b", 1)))
        self.assertEqual(runner.time(), 10000)

    def test_advance_to_the_same_time(self):
        runner = runner_of(("a", 9, 4), 3)
        before = state(runner)
        runner.advance(3)
        self.assertEqual(state(runner)[:-1], before[:-1])
        self.assertEqual(runner.lines(), list(before[-1]) + ["advance 3"])
        self.assertEqual(state(runner_of(0))[:-1], state(Runner())[:-1])

    def test_a_job_that_comes_while_another_is_half_done(self):
        runner = runner_of(("a", 4, 8), 1, ("b", 3, 4))
        self.assertEqual(runner.left(), ((6, 1), (4, 1)))
        self.assertEqual(runner.course(), (piece(1, (11, 5), "b", (10, 3)), piece((11, 5), 4, "a", (10, 3))))
        runner.advance(2)
        self.assertEqual(runner.left(), ((6, 1), (2, 3)))
        self.assertEqual(runner.done(), (piece(0, 1, "a", 2), piece(1, 2, "b", (10, 3))))

    def test_a_job_that_is_done_before_its_due_time_stays(self):
        runner = runner_of(("a", 4, 2), ("b", 8, 6), 4)
        self.assertEqual(runner.taken(), (("a", 0, 4, 2), ("b", 0, 8, 6)))
        self.assertEqual(runner.left(), ((0, 1), (4, 1)))
        self.assertEqual(runner.done(), (piece(0, 2, "a", 1), piece(2, 4, "b", 1)))
        runner.offer("c", 5, 1)
        self.assertEqual(runner.left(), ((0, 1), (4, 1), (1, 1)))
        self.assertEqual(runner.taken()[2], ("c", 4, 5, 1))

    def test_left_works_that_are_fractions(self):
        runner = runner_of(("a", 9, 2), ("b", 1, 9), 3, ("c", 9, 6))
        self.assertEqual(runner.left(), ((3, 2), (0, 1), (6, 1)))
        self.assertEqual(runner.course(), (piece(3, (21, 5), "a", (5, 4)), piece((21, 5), 9, "c", (5, 4))))

    def test_jobs_that_are_due_at_the_same_time(self):
        runner = runner_of(("b", 6, 3), ("a", 6, 3))
        self.assertEqual(runner.course(), (piece(0, 3, "b", 1), piece(3, 6, "a", 1)))
        runner.advance(1)
        runner.offer("c", 6, 5)
        self.assertEqual([row[2] for row in runner.course()], ["b", "a", "c"])

    def test_work_that_goes_on_stays_one_piece(self):
        runner = runner_of(("a", 10, 10), 1, 2, ("b", 12, 2), 3, 4, 5)
        self.assertEqual(runner.done(), (piece(0, 5, "a", 1),))
        self.assertEqual(runner.course(), (piece(5, 10, "a", 1), piece(10, 12, "b", 1)))

    def test_done_and_course_together_do_the_taken_jobs(self):
        chance = random.Random(61)
        for jobs in job_lists(62, 100, most=8, span=20) + job_lists(63, 10, most=12, span=10000, work=10000):
            runner = Runner()
            now = 0
            for name, comes, due, work in sorted(jobs, key=lambda job: job[1]):
                for time in sorted(chance.randint(now, comes) for _ in range(2)) + [comes]:
                    runner.advance(time)
                    self.assert_right(runner)
                now = comes
                runner.offer(name, due, work)
                self.assert_right(runner)
            for time in sorted(chance.randint(now, 10000) for _ in range(2)) + [10000]:
                runner.advance(time)
                self.assert_right(runner)
            self.assertEqual(len(runner.taken()), len(jobs))
            self.assertEqual(set(runner.left()), {(0, 1)})
            self.assertEqual(runner.course(), ())

    def assert_right(self, runner):
        done, course, now = runner.done(), runner.course(), runner.time()
        self.assertIsNone(fault(runner.taken(), done + course))
        self.assertEqual((tidy(done), tidy(course)), (done, course))
        self.assertTrue(all(row[1] <= now for row in fractions_of(done)))
        self.assertEqual(course, plain_course(waiting_of(runner), now))
        spent = fraction(cost(done, SQUARE, 0, 10000))
        self.assertLessEqual(spent, 4 * fraction(cost(best_plan(runner.taken()), SQUARE, 0, 10000)))

    def test_at_most_four_times_the_least_cost_where_much_comes_late(self):
        runner = Runner()
        for at, name in enumerate("abcdefghijkl"):
            runner.advance(at * 5)
            runner.offer(name, 60, 10000 // (12 - at))
            self.assert_right(runner)
        runner.advance(60)
        self.assert_right(runner)
        spent, least = [fraction(cost(plan, SQUARE, 0, 60)) for plan in (runner.done(), best_plan(runner.taken()))]
        self.assertGreater(spent, least)


class RefusedTest(unittest.TestCase):
    def assert_refused(self, runner, reason, *offer):
        before = state(runner)
        with self.assertRaises(Refused) as caught:
            runner.offer(*offer)
        self.assertEqual(caught.exception.reason, reason)
        self.assertEqual(state(runner), before)

    def test_a_name_that_is_taken(self):
        runner = runner_of(("a", 4, 8), 2)
        self.assert_refused(runner, "name", "a", 9, 1)
        runner.advance(9)
        self.assert_refused(runner, "name", "a", 10, 1)

    def test_a_thirteenth_job(self):
        runner = runner_of(*[(name, 9, 1) for name in "abcdefghijkl"])
        self.assertEqual(len(runner.taken()), 12)
        self.assert_refused(runner, "full", "m", 9, 1)
        self.assert_refused(runner, "name", "c", 9, 1)
        runner.advance(9)
        self.assert_refused(runner, "full", "m", 10, 1)

    def test_refused_before_the_cap_is_asked(self):
        runner = runner_of(*[(name, 9, 1) for name in "abcdefghijkl"], cap=2)
        self.assert_refused(runner, "full", "m", 9, 100)
        self.assert_refused(runner, "name", "a", 9, 100)

    def test_a_name_that_was_offered_and_not_taken_is_free(self):
        runner = runner_of(("a", 4, 9), cap=2)
        self.assertEqual(runner.taken(), ())
        self.assertIsNone(runner.offer("a", 5, 9))
        self.assertEqual(runner.taken(), (("a", 0, 5, 9),))

    def test_offers_that_were_not_taken_do_not_fill_the_runner(self):
        runner = runner_of(*[("z", 1, 9) for _ in range(20)], *[(name, 9, 1) for name in "abcdefghijkl"], cap=2)
        self.assertEqual(len(runner.taken()), 12)


class CapTest(unittest.TestCase):
    def assert_not_taken(self, runner, b, *offer):
        before = state(runner)
        self.assertEqual(runner.offer(*offer), b)
        self.assertIs(type(b), int)
        self.assertEqual(state(runner)[:-1], before[:-1])
        self.assertEqual(runner.lines()[:-1], list(before[-1]))

    def test_a_cap_that_is_met_exactly(self):
        runner = Runner(3)
        self.assertIsNone(runner.offer("a", 4, 12))
        self.assertEqual(runner.course(), (piece(0, 4, "a", 3),))
        self.assert_not_taken(runner, 5, "b", 5, 4)
        self.assertIsNone(runner.offer("b", 5, 3))

    def test_the_new_job_alone(self):
        self.assert_not_taken(Runner(3), 4, "a", 4, 13)
        self.assert_not_taken(runner_of(2, cap=3), 4, "a", 4, 7)
        self.assert_not_taken(Runner(1), 1, "a", 1, 10000)

    def test_the_first_of_several(self):
        # With the new job there is too much work until 2, until 3 and until 4.
        runner = runner_of(("a", 3, 5), ("b", 4, 3), cap=2)
        self.assert_not_taken(runner, 2, "c", 2, 6)

    def test_a_due_time_of_a_job_that_was_taken_before(self):
        # Until 2 there is enough time for the new job, but not until 3.
        runner = runner_of(("a", 3, 5), cap=2)
        self.assert_not_taken(runner, 3, "c", 2, 2)
        # Only until 6 there is too much, by the jobs that were taken before and the new one.
        runner = runner_of(("a", 6, 10), ("b", 9, 1), cap=2)
        self.assert_not_taken(runner, 6, "c", 3, 4)

    def test_the_densest_time_is_not_the_first_one(self):
        # Until 4 the works are 9, until 5 they are 19: the first b is 4, though 5 is denser.
        runner = runner_of(("a", 4, 8), cap=2)
        self.assert_not_taken(runner, 5, "b", 5, 10)
        runner = runner_of(("a", 5, 10), cap=2)
        self.assert_not_taken(runner, 4, "b", 4, 9)

    def test_only_the_left_works_count(self):
        runner = runner_of(("a", 4, 8), 2, cap=2)
        self.assert_not_taken(runner, 4, "b", 4, 1)
        self.assertIsNone(runner.offer("b", 5, 2))
        runner.advance(4)
        self.assertIsNone(runner.offer("c", 6, 2))
        self.assertEqual(runner.left(), ((0, 1), (2, 1), (2, 1)))

    def test_the_greatest_cap(self):
        runner = runner_of(("a", 1, 10000), cap=999999999)
        self.assertEqual(runner.taken(), (("a", 0, 1, 10000),))

    def test_without_a_cap_all_is_taken(self):
        runner = runner_of(("a", 1, 10000), ("b", 1, 10000))
        self.assertEqual(runner.course()[0][3], (20000, 1))

    def test_the_words_of_point_26(self):
        answers = []
        for at, jobs in enumerate(job_lists(64, 250, most=8, span=12)):
            cap = at % 4 + 1
            runner = Runner(cap)
            for name, comes, due, work in sorted(jobs, key=lambda job: job[1]):
                runner.advance(comes)
                before = state(runner)
                expected = plain_answer(runner, name, due, work, cap)
                answers.append(runner.offer(name, due, work))
                self.assertEqual(answers[-1], expected)
                if expected is not None:
                    self.assertEqual(state(runner)[:-1], before[:-1])
                self.assertTrue(all(row[3] <= cap for row in fractions_of(runner.course())))
            runner.advance(12)
            self.assertTrue(all(row[3] <= cap for row in fractions_of(runner.done())))
            self.assertIsNone(fault(runner.taken(), runner.done()))
        self.assertGreater(len([answer for answer in answers if answer is not None]), 100)
        self.assertGreater(len([answer for answer in answers if answer is None]), 100)


class LinesTest(unittest.TestCase):
    def test_without_a_cap(self):
        self.assertEqual(Runner().lines(), ["runner"])
        runner = runner_of(("a", 10, 10), 2, ("b", 4, 6), 2, 10000)
        expected = ["runner", "offer a 10 10", "advance 2", "offer b 4 6", "advance 2", "advance 10000"]
        self.assertEqual(runner.lines(), expected)

    def test_with_a_cap(self):
        self.assertEqual(Runner(1).lines(), ["runner 1"])
        self.assertEqual(Runner(999999999).lines(), ["runner 999999999"])

    def test_offers_that_were_not_taken_have_a_line(self):
        runner = runner_of(("a", 4, 9), ("a", 5, 9), 3, cap=2)
        self.assertEqual(runner.lines(), ["runner 2", "offer a 4 9", "offer a 5 9", "advance 3"])

    def test_refused_offers_have_no_line(self):
        runner = runner_of(("a", 4, 9))
        with self.assertRaises(Refused):
            runner.offer("a", 9, 9)
        self.assertEqual(runner.lines(), ["runner", "offer a 4 9"])

    def test_a_list_that_was_told_is_not_the_one_of_the_runner(self):
        runner = Runner()
        runner.lines().append("advance 3")
        self.assertEqual(runner.lines(), ["runner"])
        told = runner.lines()
        runner.advance(3)
        self.assertEqual(told, ["runner"])


if __name__ == "__main__":
    unittest.main()
