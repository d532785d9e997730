"""Points 12 and 14: the rounds, the speeds and the peak."""

import unittest
from fractions import Fraction

from samples import EXAMPLE, fraction, job_lists, other_plan, pair_of

from sparewatts.rounds import peak, rounds, speeds


def runs(units):
    """Units of time, each known by its start, put together to pairs (start, end)."""
    found = []
    for unit in sorted(units):
        if found and found[-1][1] == unit:
            found[-1] = (found[-1][0], unit + 1)
        else:
            found.append((unit, unit + 1))
    return tuple(found)


def plain_round(waiting, free):
    """One round on the words of point 12, with each pair of times and with units of time."""
    ends = {}
    for name, comes, due, _ in waiting:
        window = [unit for unit in free if comes <= unit < due]
        ends[name] = (min(window), max(window) + 1)
    tried = []
    for a in {first for first, _ in ends.values()}:
        for b in {last for _, last in ends.values()}:
            names = [job[0] for job in waiting if a <= ends[job[0]][0] and ends[job[0]][1] <= b]
            load = sum(job[3] for job in waiting if job[0] in names)
            units = [unit for unit in free if a <= unit < b]
            if a < b and load > 0:
                tried.append((Fraction(load, len(units)), -a, b, names, units))
    return max(tried)


def plain_rounds(jobs):
    waiting = list(jobs)
    free = set(range(max([job[2] for job in jobs], default=0)))
    found = []
    while waiting:
        speed, _, _, names, units = plain_round(waiting, free)
        found.append((pair_of(speed), tuple(names), runs(units)))
        waiting = [job for job in waiting if job[0] not in names]
        free -= set(units)
    return found


class RoundsTest(unittest.TestCase):
    def test_the_example(self):
        expected = [((3, 1), ("b",), ((2, 4),)), ((5, 4), ("a",), ((0, 2), (4, 10)))]
        self.assertEqual(rounds(EXAMPLE), expected)

    def test_the_empty_list(self):
        self.assertEqual(rounds(()), [])

    def test_one_job(self):
        self.assertEqual(rounds((("a", 3, 9, 4),)), [((2, 3), ("a",), ((3, 9),))])
        self.assertEqual(rounds((("a", 0, 10000, 10000),)), [((1, 1), ("a",), ((0, 10000),))])
        self.assertEqual(rounds((("a", 9999, 10000, 1),)), [((1, 1), ("a",), ((9999, 10000),))])

    def test_the_kinds_of_values(self):
        found = rounds(EXAMPLE)
        self.assertIs(type(found), list)
        for row in found:
            self.assertEqual([type(part) for part in row], [tuple, tuple, tuple])
            self.assertIs(type(row), tuple)
            for pair in row[2]:
                self.assertEqual([type(part) for part in pair], [int, int])
                self.assertIs(type(pair), tuple)

    def test_equal_windows(self):
        jobs = (("b", 1, 5, 3), ("a", 1, 5, 4))
        self.assertEqual(rounds(jobs), [((7, 4), ("b", "a"), ((1, 5),))])

    def test_windows_that_touch(self):
        jobs = (("a", 0, 3, 3), ("b", 3, 5, 4))
        self.assertEqual(rounds(jobs), [((2, 1), ("b",), ((3, 5),)), ((1, 1), ("a",), ((0, 3),))])

    def test_windows_that_touch_with_the_same_density_are_one_round(self):
        jobs = (("b", 3, 5, 4), ("a", 0, 3, 6))
        self.assertEqual(rounds(jobs), [((2, 1), ("b", "a"), ((0, 5),))])

    def test_a_window_in_another_one(self):
        jobs = (("a", 0, 6, 12), ("b", 2, 4, 2))
        self.assertEqual(rounds(jobs), [((7, 3), ("a", "b"), ((0, 6),))])
        jobs = (("a", 0, 6, 3), ("b", 2, 6, 8))
        self.assertEqual(rounds(jobs), [((2, 1), ("b",), ((2, 6),)), ((3, 2), ("a",), ((0, 2),))])

    def test_windows_that_cross(self):
        jobs = (("a", 0, 4, 8), ("b", 2, 6, 2))
        self.assertEqual(rounds(jobs), [((2, 1), ("a",), ((0, 4),)), ((1, 1), ("b",), ((4, 6),))])
        jobs = (("a", 0, 4, 4), ("b", 2, 6, 4))
        self.assertEqual(rounds(jobs), [((4, 3), ("a", "b"), ((0, 6),))])

    def test_the_same_density_apart_takes_the_least_a(self):
        jobs = (("b", 5, 7, 4), ("a", 1, 2, 2))
        self.assertEqual(rounds(jobs), [((2, 1), ("a",), ((1, 2),)), ((2, 1), ("b",), ((5, 7),))])

    def test_the_same_density_takes_the_greatest_b(self):
        # (0, 2), (0, 4), (2, 4) and (0, 6) all have the density 1.
        jobs = (("c", 4, 6, 2), ("a", 0, 2, 2), ("b", 2, 4, 2))
        self.assertEqual(rounds(jobs), [((1, 1), ("c", "a", "b"), ((0, 6),))])

    def test_the_least_a_comes_before_the_greatest_b(self):
        # (0, 1) and (4, 8) have the density 2, but not (0, 8).
        jobs = (("a", 0, 1, 2), ("b", 4, 8, 8))
        self.assertEqual([row[2] for row in rounds(jobs)], [((0, 1),), ((4, 8),)])

    def test_times_in_several_pieces(self):
        jobs = (("a", 0, 12, 6), ("b", 2, 3, 5), ("c", 6, 8, 4))
        expected = [
            ((5, 1), ("b",), ((2, 3),)),
            ((2, 1), ("c",), ((6, 8),)),
            ((2, 3), ("a",), ((0, 2), (3, 6), (8, 12))),
        ]
        self.assertEqual(rounds(jobs), expected)

    def test_free_windows_that_become_narrower(self):
        # When the time from 2 to 4 is gone, c's first is 4 and a's last is 2.
        jobs = (("a", 1, 4, 2), ("b", 2, 4, 20), ("c", 3, 6, 6), ("d", 0, 8, 1))
        expected = [
            ((10, 1), ("b",), ((2, 4),)),
            ((3, 1), ("c",), ((4, 6),)),
            ((2, 1), ("a",), ((1, 2),)),
            ((1, 3), ("d",), ((0, 1), (6, 8))),
        ]
        self.assertEqual(rounds(jobs), expected)

    def test_times_that_meet_only_over_the_time_of_an_earlier_round(self):
        # For a and c the free time from 0 to 6 is 4 long; their pair of times is (0, 6).
        jobs = (("c", 3, 6, 4), ("b", 2, 4, 20), ("a", 0, 3, 4))
        expected = [((10, 1), ("b",), ((2, 4),)), ((2, 1), ("c", "a"), ((0, 2), (4, 6)))]
        self.assertEqual(rounds(jobs), expected)

    def test_names_are_in_the_order_of_the_list(self):
        jobs = (("z", 0, 3, 1), ("m", 0, 3, 5), ("a", 0, 3, 2), ("q", 0, 3, 5))
        self.assertEqual(rounds(jobs), [((13, 3), ("z", "m", "a", "q"), ((0, 3),))])

    def test_twelve_jobs(self):
        jobs = tuple(("abcdefghijkl"[at], at, at + 1, 12 - at) for at in range(12))
        found = rounds(jobs)
        self.assertEqual(found, [((12 - at, 1), (jobs[at][0],), ((at, at + 1),)) for at in range(12)])
        nested = tuple(("abcdefghijkl"[at], at, 24 - at, 1) for at in range(12))
        self.assertEqual(rounds(nested), plain_rounds(nested))
        self.assertEqual(rounds(nested[::-1]), plain_rounds(nested[::-1]))

    def test_small_job_lists_by_the_words_of_point_12(self):
        for jobs in job_lists(21, 400):
            self.assertEqual(rounds(jobs), plain_rounds(jobs), jobs)

    def test_job_lists_with_many_equal_densities(self):
        for jobs in job_lists(22, 200, most=6, span=5, work=2):
            self.assertEqual(rounds(jobs), plain_rounds(jobs), jobs)

    def test_long_job_lists_by_the_words_of_point_12(self):
        for jobs in job_lists(23, 40, most=12, span=24, work=9):
            self.assertEqual(rounds(jobs), plain_rounds(jobs), jobs)

    def test_somewhat_beyond_the_limits(self):
        jobs = tuple(("abcdefghijklmn"[at], at, at + 20000, 10001 + at) for at in range(14))
        names = tuple(job[0] for job in jobs)
        self.assertEqual(rounds(jobs)[0][1], names)
        idle = (("a", 0, 4, 0), ("b", 1, 2, 3))
        self.assertEqual(rounds(idle), [((3, 1), ("b",), ((1, 2),))])
        self.assertEqual(speeds(idle), ((0, 1), (3, 1)))

    def test_the_times_belong_to_one_round_each(self):
        for jobs in job_lists(24, 60, most=12, span=20):
            taken = []
            for _, _, pairs in rounds(jobs):
                for (_, end), (start, _) in zip(pairs, pairs[1:]):
                    self.assertLess(end, start)
                for start, end in pairs:
                    taken.extend(range(start, end))
            self.assertEqual(len(taken), len(set(taken)))


class SpeedsTest(unittest.TestCase):
    def test_the_example(self):
        self.assertEqual(speeds(EXAMPLE), ((5, 4), (3, 1)))
        self.assertEqual(speeds(EXAMPLE[::-1]), ((3, 1), (5, 4)))

    def test_the_empty_list(self):
        self.assertEqual(speeds(()), ())

    def test_the_order_of_the_list(self):
        jobs = (("d", 0, 8, 1), ("c", 3, 6, 6), ("b", 2, 4, 20), ("a", 1, 4, 2))
        self.assertEqual(speeds(jobs), ((1, 3), (3, 1), (10, 1), (2, 1)))

    def test_many_lists_by_their_rounds(self):
        for jobs in job_lists(25, 60, most=12):
            expected = {}
            for speed, names, _ in plain_rounds(jobs):
                expected.update({name: speed for name in names})
            self.assertEqual(speeds(jobs), tuple(expected[job[0]] for job in jobs))


class PeakTest(unittest.TestCase):
    def test_the_example(self):
        self.assertEqual(peak(EXAMPLE), ((3, 1), 2, 4))

    def test_the_empty_list(self):
        self.assertEqual(peak(()), ((0, 1), 0, 0))

    def test_of_several_the_least_a_and_the_greatest_b(self):
        self.assertEqual(peak((("b", 5, 7, 4), ("a", 1, 2, 2))), ((2, 1), 1, 2))
        self.assertEqual(peak((("b", 3, 5, 4), ("a", 0, 3, 6))), ((2, 1), 0, 5))

    def test_it_is_that_of_the_first_round(self):
        for jobs in job_lists(26, 100, most=8):
            speed, _, pairs = plain_rounds(jobs)[0]
            self.assertEqual(peak(jobs), (speed, pairs[0][0], pairs[-1][1]))

    def test_the_windows_between_a_and_b_have_so_much_work(self):
        for jobs in job_lists(27, 100):
            speed, a, b = peak(jobs)
            work = sum(job[3] for job in jobs if a <= job[1] and job[2] <= b)
            self.assertEqual(fraction(speed), Fraction(work, b - a))
            self.assertEqual([type(a), type(b)], [int, int])

    def test_no_plan_has_a_lesser_greatest_speed(self):
        for seed, jobs in enumerate(job_lists(28, 100)):
            greatest = max(fraction(part[3]) for part in other_plan(jobs, seed))
            self.assertLessEqual(fraction(peak(jobs)[0]), greatest)


if __name__ == "__main__":
    unittest.main()
