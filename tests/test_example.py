"""Point 35: the example, by all functions that it speaks of; and what point 1 says of it."""

import unittest

from samples import EXAMPLE, fraction

from sparewatts.account import account
from sparewatts.book import Book
from sparewatts.jobs import read_jobs, write_jobs
from sparewatts.journal import replay
from sparewatts.judge import better, is_least
from sparewatts.planner import best_plan
from sparewatts.plans import fault, gaps, speed_at, tidy
from sparewatts.plantexts import read_plan, write_plan
from sparewatts.prices import cost
from sparewatts.rounds import peak, rounds, speeds
from sparewatts.runner import Runner
from sparewatts.tariffs import tariff_cost, tariff_plan

SQUARE = ("square",)
BEST = (((0, 1), (2, 1), "a", (5, 4)), ((2, 1), (4, 1), "b", (3, 1)), ((4, 1), (10, 1), "a", (5, 4)))
DONE = (((0, 1), (2, 1), "a", (1, 1)), ((2, 1), (4, 1), "b", (3, 1)), ((4, 1), (10, 1), "a", (4, 3)))


class ExampleTest(unittest.TestCase):
    def run_it(self):
        runner = Runner()
        runner.offer("a", 10, 10)
        runner.advance(2)
        runner.offer("b", 4, 6)
        return runner

    def test_the_best_plan(self):
        self.assertEqual(peak(EXAMPLE), ((3, 1), 2, 4))
        self.assertEqual(rounds(EXAMPLE), [((3, 1), ("b",), ((2, 4),)), ((5, 4), ("a",), ((0, 2), (4, 10)))])
        self.assertEqual(speeds(EXAMPLE), ((5, 4), (3, 1)))
        self.assertEqual(best_plan(EXAMPLE), BEST)
        self.assertIsNone(fault(EXAMPLE, BEST))
        self.assertEqual(tidy(BEST), BEST)
        self.assertEqual(gaps(BEST, 0, 10), ())
        self.assertEqual([speed_at(BEST, (time, 1)) for time in (0, 2, 4, 10)], [(5, 4), (3, 1), (5, 4), (0, 1)])
        self.assertEqual(cost(BEST, SQUARE, 0, 10), (61, 2))

    def test_the_runner(self):
        runner = self.run_it()
        self.assertEqual(runner.done(), DONE[:1])
        self.assertEqual(runner.left(), ((8, 1), (6, 1)))
        self.assertEqual(runner.course(), DONE[1:])
        runner.advance(10)
        self.assertEqual(runner.done(), DONE)
        self.assertEqual(cost(DONE, SQUARE, 0, 10), (92, 3))

    def test_what_the_program_says_of_both_plans(self):
        self.assertTrue(is_least(EXAMPLE, BEST))
        self.assertFalse(is_least(EXAMPLE, DONE))
        self.assertIsNone(better(EXAMPLE, BEST))
        cheaper = better(EXAMPLE, DONE)
        self.assertLess(fraction(cost(cheaper, SQUARE, 0, 10)), fraction(cost(DONE, SQUARE, 0, 10)))
        rows = account(EXAMPLE, DONE, BEST)
        self.assertEqual(rows[-1], ((10, 1), (92, 3), (61, 2), (0, 1)))

    def test_all_other_ways_to_the_same_plan(self):
        book = Book()
        for job in read_jobs("a 0 10 10\nb 2 4 6\n"):
            book.put(job)
        self.assertEqual(book.jobs(), EXAMPLE)
        self.assertEqual(book.plan(), BEST)
        self.assertEqual(tariff_plan(EXAMPLE, ((0, 1),)), BEST)
        self.assertEqual(tariff_cost(BEST, ((0, 1),), 0, 10), (61, 2))
        self.assertEqual(write_jobs(EXAMPLE), "a 0 10 10\nb 2 4 6\n")
        self.assertEqual(read_plan(write_plan(BEST)), BEST)
        self.assertEqual(write_plan(DONE), "0 2 a 1\n2 4 b 3\n4 10 a 4/3\n")

    def test_the_journal(self):
        runner = self.run_it()
        runner.advance(10)
        lines = ["runner", "offer a 10 10", "advance 2", "offer b 4 6", "advance 10"]
        self.assertEqual(runner.lines(), lines)
        self.assertEqual(replay(lines).done(), DONE)
        self.assertEqual(replay(lines[:-1] + ["adva"]).course(), DONE[1:])


if __name__ == "__main__":
    unittest.main()
