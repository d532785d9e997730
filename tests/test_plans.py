"""Points 7 to 9 and 32: plans."""

import unittest

from sparewatts.plans import fault, gaps, speed_at, tidy
from sparewatts.ratios import ratio


def piece(start, end, name, speed):
    """A piece from pairs that need not be in lowest terms, or from integers."""
    parts = [ratio(*part) if isinstance(part, tuple) else ratio(part) for part in (start, end, speed)]
    return (parts[0], parts[1], name, parts[2])


JOBS = (("a", 0, 10, 10), ("b", 2, 4, 6))
BEST = (piece(0, 2, "a", (5, 4)), piece(2, 4, "b", 3), piece(4, 10, "a", (5, 4)))


class FaultTest(unittest.TestCase):
    def test_a_plan_that_does_the_list(self):
        self.assertIsNone(fault(JOBS, BEST))

    def test_the_empty_list_and_the_empty_plan(self):
        self.assertIsNone(fault((), ()))
        self.assertEqual(fault(JOBS, ()), ("work", "a"))
        self.assertEqual(fault((), BEST), ("unknown", 0))

    def test_unknown(self):
        self.assertEqual(fault(JOBS, BEST + (piece(10, 11, "c", 1),)), ("unknown", 3))
        plan = (piece(0, 1, "c", 1), piece(1, 2, "d", 1))
        self.assertEqual(fault(JOBS, plan), ("unknown", 0))

    def test_pieces_that_begin_or_end_at_the_ends_of_a_window(self):
        jobs = (("a", 3, 5, 4),)
        self.assertIsNone(fault(jobs, (piece(3, 5, "a", 2),)))
        self.assertEqual(fault(jobs, (piece((29, 10), 5, "a", (40, 21)),)), ("window", 0))
        self.assertEqual(fault(jobs, (piece(3, (51, 10), "a", (40, 21)),)), ("window", 0))

    def test_pieces_wholly_outside_of_their_windows(self):
        jobs = (("a", 3, 5, 4), ("b", 0, 9, 1))
        self.assertEqual(fault(jobs, (piece(1, 3, "a", 2), piece(5, 6, "b", 1))), ("window", 0))
        self.assertEqual(fault(jobs, (piece(1, 2, "b", 1), piece(5, 7, "a", 2))), ("window", 1))
        plan = (piece(3, 4, "a", 2), piece(8, 10, "b", 1), piece(10, 11, "a", 2))
        self.assertEqual(fault(jobs, plan), ("window", 1))

    def test_a_work_that_is_done_a_fraction_too_little_or_too_much(self):
        for speed in ((2999999, 1000000), (3000001, 1000000)):
            plan = (BEST[0], piece(2, 4, "b", speed), BEST[2])
            self.assertEqual(fault(JOBS, plan), ("work", "b"))

    def test_a_work_that_is_not_done_at_all(self):
        self.assertEqual(fault(JOBS, (BEST[1],)), ("work", "a"))
        self.assertEqual(fault(JOBS, (BEST[0], BEST[2])), ("work", "b"))

    def test_the_first_job_in_the_order_of_the_list(self):
        jobs = (("c", 0, 10, 1), ("a", 0, 10, 1), ("b", 0, 10, 1))
        plan = (piece(0, 1, "b", 2), piece(1, 2, "a", 2), piece(2, 3, "c", 1))
        self.assertEqual(fault(jobs, plan), ("work", "a"))

    def test_a_work_in_several_pieces(self):
        jobs = (("a", 0, 3, 1),)
        thirds = tuple(piece(at, at + 1, "a", (1, 3)) for at in range(3))
        self.assertIsNone(fault(jobs, thirds))
        self.assertEqual(fault(jobs, thirds[:2]), ("work", "a"))

    def test_unknown_comes_first_then_window_then_work(self):
        outside = piece(0, 2, "b", 1)
        stranger = piece(9, 10, "c", 1)
        self.assertEqual(fault(JOBS, (outside, stranger)), ("unknown", 1))
        self.assertEqual(fault(JOBS, (outside, BEST[2])), ("window", 0))
        self.assertEqual(fault(JOBS, (BEST[0], stranger)), ("unknown", 1))

    def test_the_plan_need_not_be_tidy(self):
        halves = (piece(2, 3, "b", 3), piece(3, 4, "b", 3))
        self.assertIsNone(fault(JOBS, (BEST[0],) + halves + (BEST[2],)))


class TidyTest(unittest.TestCase):
    def test_pieces_that_meet_with_the_same_name_and_speed(self):
        plan = (piece(0, (1, 2), "a", (2, 3)), piece((1, 2), 2, "a", (2, 3)))
        self.assertEqual(tidy(plan), (piece(0, 2, "a", (2, 3)),))

    def test_another_name(self):
        plan = (piece(0, 1, "a", 2), piece(1, 2, "b", 2))
        self.assertEqual(tidy(plan), plan)

    def test_another_speed(self):
        plan = (piece(0, 1, "a", 2), piece(1, 2, "a", (5, 2)))
        self.assertEqual(tidy(plan), plan)

    def test_an_idle_time_in_between(self):
        plan = (piece(0, 1, "a", 2), piece((11, 10), 2, "a", 2))
        self.assertEqual(tidy(plan), plan)

    def test_three_pieces_in_a_row(self):
        plan = tuple(piece(at, at + 1, "a", 2) for at in range(3))
        self.assertEqual(tidy(plan), (piece(0, 3, "a", 2),))

    def test_several_rows(self):
        plan = tuple(piece(at, at + 1, "aabbba"[at], 2) for at in range(6))
        expected = (piece(0, 2, "a", 2), piece(2, 5, "b", 2), piece(5, 6, "a", 2))
        self.assertEqual(tidy(plan), expected)

    def test_a_tidy_plan_comes_back_as_it_is(self):
        for plan in ((), BEST, BEST[:1]):
            found = tidy(plan)
            self.assertEqual(found, plan)
            self.assertIs(type(found), tuple)

    def test_the_plan_that_was_passed_stays_as_it_was(self):
        plan = (piece(0, 1, "a", 2), piece(1, 2, "a", 2))
        tidy(plan)
        self.assertEqual(plan, (piece(0, 1, "a", 2), piece(1, 2, "a", 2)))


class SpeedAtTest(unittest.TestCase):
    PLAN = (piece(1, 2, "a", (5, 4)), piece(2, (7, 2), "b", 3), piece(5, 6, "a", 1))

    def assert_speed(self, time, speed):
        self.assertEqual(speed_at(self.PLAN, time), speed)

    def test_the_start_belongs_to_a_piece(self):
        self.assert_speed((1, 1), (5, 4))
        self.assert_speed((5, 1), (1, 1))

    def test_the_end_does_not(self):
        self.assert_speed((2, 1), (3, 1))
        self.assert_speed((7, 2), (0, 1))
        self.assert_speed((6, 1), (0, 1))

    def test_inside_of_a_piece(self):
        self.assert_speed((3, 2), (5, 4))
        self.assert_speed((349, 100), (3, 1))

    def test_in_an_idle_time(self):
        self.assert_speed((4, 1), (0, 1))
        self.assert_speed((499, 100), (0, 1))

    def test_in_front_of_all_pieces_and_behind_them(self):
        self.assert_speed((0, 1), (0, 1))
        self.assert_speed((99, 100), (0, 1))
        self.assert_speed((10001, 1), (0, 1))

    def test_the_empty_plan(self):
        self.assertEqual(speed_at((), (0, 1)), (0, 1))
        self.assertEqual(speed_at((), (7, 3)), (0, 1))


class GapsTest(unittest.TestCase):
    PLAN = (piece(2, 4, "a", 1), piece(4, (9, 2), "b", 1), piece(6, 8, "a", 2))

    def assert_gaps(self, begin, end, *pairs):
        expected = tuple((ratio(*start), ratio(*stop)) for start, stop in pairs)
        found = gaps(self.PLAN, begin, end)
        self.assertEqual(found, expected)
        self.assertIs(type(found), tuple)

    def test_all_pieces_inside(self):
        self.assert_gaps(0, 10, ((0,), (2,)), ((9, 2), (6,)), ((8,), (10,)))
        self.assert_gaps(1, 9, ((1,), (2,)), ((9, 2), (6,)), ((8,), (9,)))

    def test_pieces_that_begin_or_end_at_begin_and_end(self):
        self.assert_gaps(2, 8, ((9, 2), (6,)))
        self.assert_gaps(4, 6, ((9, 2), (6,)))

    def test_pieces_that_lie_in_part_outside(self):
        self.assert_gaps(3, 7, ((9, 2), (6,)))
        self.assert_gaps(3, 4)
        self.assert_gaps(7, 8)

    def test_pieces_that_lie_wholly_outside(self):
        self.assert_gaps(5, 6, ((5,), (6,)))
        self.assert_gaps(0, 1, ((0,), (1,)))
        self.assert_gaps(0, 2, ((0,), (2,)))
        self.assert_gaps(8, 12, ((8,), (12,)))
        self.assert_gaps(9, 12, ((9,), (12,)))
        self.assert_gaps(5, 12, ((5,), (6,)), ((8,), (12,)))

    def test_a_piece_that_contains_all_the_time(self):
        self.assertEqual(gaps((piece(0, 10, "a", 1),), 3, 7), ())

    def test_pieces_that_touch_leave_no_gap(self):
        plan = (piece(0, 1, "a", 1), piece(1, 2, "a", 1), piece(2, 3, "b", 1))
        self.assertEqual(gaps(plan, 0, 3), ())
        self.assertEqual(gaps(plan, 0, 4), (((3, 1), (4, 1)),))

    def test_begin_is_end(self):
        for time in (0, 2, 3, 4, 5, 6, 8, 20):
            self.assert_gaps(time, time)

    def test_the_empty_plan(self):
        self.assertEqual(gaps((), 3, 7), (((3, 1), (7, 1)),))
        self.assertEqual(gaps((), 0, 0), ())

    def test_ends_that_are_no_integers(self):
        plan = (piece((1, 3), (2, 3), "a", 1), piece((5, 3), (7, 3), "a", 1))
        expected = (((0, 1), (1, 3)), ((2, 3), (5, 3)), ((7, 3), (3, 1)))
        self.assertEqual(gaps(plan, 0, 3), expected)


if __name__ == "__main__":
    unittest.main()
