"""The stretches of a time, of which points 11, 16 and 17 speak."""

import unittest

from samples import piece

from sparewatts.ratios import ratio
from sparewatts.stretches import stretches

PLAN = (piece(2, 4, "a", 1), piece(4, (9, 2), "b", 3), piece(6, 8, "a", (1, 2)))


def idle(start, end):
    return (ratio(*start), ratio(*end), None, (0, 1))


class StretchesTest(unittest.TestCase):
    def assert_stretches(self, begin, end, *expected):
        self.assertEqual(stretches(PLAN, begin, end), list(expected))

    def test_all_of_the_plan(self):
        rows = (idle((0,), (2,)), PLAN[0], PLAN[1], idle((9, 2), (6,)), PLAN[2], idle((8,), (9,)))
        self.assert_stretches(0, 9, *rows)

    def test_no_idle_time_at_the_ends(self):
        self.assert_stretches(2, 8, PLAN[0], PLAN[1], idle((9, 2), (6,)), PLAN[2])

    def test_pieces_that_are_cut(self):
        self.assert_stretches(3, 7, piece(3, 4, "a", 1), PLAN[1], idle((9, 2), (6,)), piece(6, 7, "a", (1, 2)))

    def test_a_time_in_one_piece(self):
        self.assertEqual(stretches((piece(0, 9, "a", 2),), 3, 4), [piece(3, 4, "a", 2)])

    def test_an_idle_time_that_is_cut(self):
        self.assert_stretches(5, 6, idle((5,), (6,)))
        self.assert_stretches(0, 1, idle((0,), (1,)))
        self.assert_stretches(20, 30, idle((20,), (30,)))

    def test_no_time(self):
        for time in (0, 2, 3, 4, 5, 8, 9):
            self.assert_stretches(time, time)

    def test_the_empty_plan(self):
        self.assertEqual(stretches((), 1, 3), [idle((1,), (3,))])

    def test_pieces_that_meet_stay_two_stretches(self):
        plan = (piece(0, 1, "a", 1), piece(1, 2, "a", 1))
        self.assertEqual(stretches(plan, 0, 2), list(plan))


if __name__ == "__main__":
    unittest.main()
