"""Points 20 and 21: books of jobs."""

import random
import unittest

from samples import BEST, EXAMPLE, piece

from sparewatts.book import Book
from sparewatts.errors import Refused
from sparewatts.planner import best_plan

TWELVE = tuple((name, at, at + 2, 1) for at, name in enumerate("abcdefghijkl"))


def book_of(jobs):
    book = Book()
    for job in jobs:
        book.put(job)
    return book


def plain_parts(jobs):
    """The parts on the words of point 21: what can be reached from each job, as a set of tuples."""
    found = set()
    for job in jobs:
        reached = {job}
        while True:
            more = {other for other in jobs for one in reached if max(other[1], one[1]) < min(other[2], one[2])}
            if more <= reached:
                break
            reached |= more
        found.add(tuple(other for other in jobs if other in reached))
    return found


class EditTest(unittest.TestCase):
    def assert_refused(self, reason, edit, *arguments):
        with self.assertRaises(Refused) as caught:
            edit(*arguments)
        self.assertEqual(caught.exception.reason, reason)

    def test_the_empty_book(self):
        book = Book()
        self.assertEqual(book.jobs(), ())
        self.assertIs(type(book.jobs()), tuple)
        self.assertEqual(book.plan(), ())
        self.assertEqual(book.worked(), 0)

    def test_put_behind_the_others(self):
        book = book_of(EXAMPLE)
        self.assertEqual(book.jobs(), EXAMPLE)
        book.put(("aa", 0, 1, 1))
        self.assertEqual(book.jobs(), EXAMPLE + (("aa", 0, 1, 1),))
        self.assertIs(type(book.jobs()), tuple)

    def test_put_in_the_place_of_the_job_with_the_same_name(self):
        book = book_of(TWELVE[:3])
        book.put(("b", 7, 9, 4))
        self.assertEqual(book.jobs(), (TWELVE[0], ("b", 7, 9, 4), TWELVE[2]))

    def test_drop(self):
        book = book_of(TWELVE[:3])
        book.drop("b")
        self.assertEqual(book.jobs(), (TWELVE[0], TWELVE[2]))
        book.put(TWELVE[1])
        self.assertEqual(book.jobs(), (TWELVE[0], TWELVE[2], TWELVE[1]))

    def test_a_thirteenth_job(self):
        book = book_of(TWELVE)
        self.assert_refused("full", book.put, ("m", 0, 1, 1))
        self.assertEqual(book.jobs(), TWELVE)
        book.put(("d", 0, 1, 5))
        self.assertEqual(book.jobs(), TWELVE[:3] + (("d", 0, 1, 5),) + TWELVE[4:])
        book.drop("a")
        book.put(("m", 0, 1, 1))
        self.assertEqual(len(book.jobs()), 12)
        self.assert_refused("full", book.put, ("a", 0, 1, 1))

    def test_an_unknown_name(self):
        self.assert_refused("unknown", Book().drop, "a")
        book = book_of(EXAMPLE)
        self.assert_refused("unknown", book.drop, "c")
        book.drop("a")
        self.assert_refused("unknown", book.drop, "a")
        self.assertEqual(book.jobs(), EXAMPLE[1:])

    def test_a_refused_edit_changes_nothing(self):
        book = book_of(TWELVE)
        plan = book.plan()
        for edit, argument in ((book.put, ("m", 0, 1, 1)), (book.drop, "m")):
            with self.assertRaises(Refused):
                edit(argument)
            self.assertEqual(book.jobs(), TWELVE)
            self.assertEqual(book.worked(), 1)
            self.assertEqual(book.plan(), plan)
            self.assertEqual(book.worked(), 1)

    def test_two_books_have_nothing_in_common(self):
        first = book_of(EXAMPLE)
        second = Book()
        first.plan()
        self.assertEqual(second.jobs(), ())
        second.put(EXAMPLE[0])
        self.assertEqual(second.worked(), 0)
        self.assertEqual(first.jobs(), EXAMPLE)


class PlanTest(unittest.TestCase):
    def assert_worked(self, book, many):
        """The plan is the best one, and so many plans of parts were worked out by then."""
        self.assertEqual(book.plan(), best_plan(book.jobs()))
        self.assertEqual(book.worked(), many, book.jobs())

    def test_the_example(self):
        self.assertEqual(book_of(EXAMPLE).plan(), BEST)

    def test_worked_before_and_behind_plans(self):
        book = book_of(EXAMPLE)
        self.assertEqual(book.worked(), 0)
        self.assert_worked(book, 1)
        self.assert_worked(book, 1)
        self.assert_worked(book, 1)

    def test_windows_that_meet_at_a_point_do_not_touch(self):
        book = book_of((("a", 0, 3, 1), ("b", 3, 5, 1), ("c", 5, 6, 1)))
        self.assert_worked(book, 3)
        book.put(("b", 3, 5, 2))
        self.assert_worked(book, 4)

    def test_windows_that_overlap_touch(self):
        book = book_of((("a", 0, 4, 1), ("b", 3, 5, 1)))
        self.assert_worked(book, 1)
        book = book_of((("a", 0, 9, 1), ("b", 3, 5, 1), ("c", 9, 10, 1)))
        self.assert_worked(book, 2)

    def test_a_part_that_is_held_together_by_a_job_that_touches_two_others(self):
        book = book_of((("a", 0, 3, 1), ("b", 5, 8, 1), ("c", 2, 6, 9)))
        self.assert_worked(book, 1)
        book = book_of((("a", 0, 3, 1), ("b", 5, 8, 1), ("c", 3, 5, 9)))
        self.assert_worked(book, 3)

    def test_a_long_window_that_comes_first(self):
        # The last job touches only the first one, not the one in front of it.
        book = book_of((("a", 0, 9, 3), ("b", 1, 2, 1), ("c", 5, 6, 4)))
        self.assert_worked(book, 1)

    def test_the_jobs_of_the_parts_are_mixed(self):
        jobs = (("d", 6, 9, 2), ("a", 0, 4, 1), ("c", 6, 9, 2), ("b", 0, 4, 3))
        book = book_of(jobs)
        expected = (
            piece(0, 1, "a", 1),
            piece(1, 4, "b", 1),
            piece(6, (15, 2), "d", (4, 3)),
            piece((15, 2), 9, "c", (4, 3)),
        )
        self.assertEqual(book.plan(), expected)
        self.assert_worked(book, 2)

    def test_a_job_that_is_put_in_its_own_place(self):
        book = book_of(EXAMPLE)
        self.assert_worked(book, 1)
        book.put(("a", 0, 10, 10))
        self.assert_worked(book, 1)
        book.put(("a", 0, 10, 11))
        self.assert_worked(book, 2)

    def test_a_job_that_is_dropped_and_put_back_changes_the_order(self):
        book = book_of((("a", 0, 4, 1), ("b", 0, 4, 1)))
        self.assert_worked(book, 1)
        book.drop("a")
        book.put(("a", 0, 4, 1))
        self.assert_worked(book, 2)

    def test_an_edit_that_is_undone_before_the_plan(self):
        book = book_of(EXAMPLE)
        self.assert_worked(book, 1)
        book.put(("a", 0, 10, 11))
        book.put(("a", 0, 10, 10))
        self.assert_worked(book, 1)

    def test_two_parts_that_become_one_and_one_that_becomes_two(self):
        book = book_of((("a", 0, 3, 1), ("b", 5, 8, 1), ("c", 9, 10, 1)))
        self.assert_worked(book, 3)
        book.put(("d", 2, 6, 1))
        self.assert_worked(book, 4)
        book.drop("d")
        self.assert_worked(book, 6)

    def test_a_part_that_comes_back_is_worked_out_again(self):
        book = book_of((("a", 0, 3, 1), ("b", 5, 8, 1)))
        self.assert_worked(book, 2)
        book.drop("a")
        self.assert_worked(book, 2)
        book.put(("a", 0, 3, 1))
        self.assert_worked(book, 3)

    def test_an_empty_book_forgets_its_parts(self):
        book = book_of(EXAMPLE[:1])
        self.assert_worked(book, 1)
        book.drop("a")
        self.assert_worked(book, 1)
        book.put(EXAMPLE[0])
        self.assert_worked(book, 2)

    def test_many_small_books(self):
        chance = random.Random(41)
        for _ in range(60):
            book = Book()
            known = set()
            many = 0
            for _ in range(12):
                self.edit(book, chance)
                if chance.randint(0, 2) > 0:
                    parts = plain_parts(book.jobs())
                    many += len(parts - known)
                    known = parts
                    self.assert_worked(book, many)

    def edit(self, book, chance):
        names = [job[0] for job in book.jobs()]
        if names and chance.randint(0, 3) == 0:
            book.drop(chance.choice(names))
        else:
            comes = chance.randint(0, 14)
            book.put((chance.choice("abcdefg"), comes, comes + chance.randint(1, 4), chance.randint(1, 3)))


if __name__ == "__main__":
    unittest.main()
