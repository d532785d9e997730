"""Point 34: the texts of plans."""

import unittest

from samples import BEST, job_lists, other_plan, piece

from sparewatts.errors import BadText
from sparewatts.judge import better
from sparewatts.planner import best_plan
from sparewatts.plantexts import read_plan, write_plan

NINES = "9" * 200


class WriteTest(unittest.TestCase):
    def test_the_example(self):
        self.assertEqual(write_plan(BEST), "0 2 a 5/4\n2 4 b 3\n4 10 a 5/4\n")

    def test_the_empty_plan(self):
        self.assertEqual(write_plan(()), "")

    def test_fractions_and_times_below_0(self):
        plan = (piece((-7, 2), -1, "abc", (1, 9)), piece(-1, (-1, 3), "z", 1), piece(0, (10, 3), "abcdefgh", (22, 7)))
        self.assertEqual(write_plan(plan), "-7/2 -1 abc 1/9\n-1 -1/3 z 1\n0 10/3 abcdefgh 22/7\n")


class ReadTest(unittest.TestCase):
    def assert_plan(self, plan):
        self.assertEqual(read_plan(write_plan(plan)), plan)

    def assert_wrong(self, line, text):
        with self.assertRaises(BadText, msg=text) as caught:
            read_plan(text)
        self.assertEqual(caught.exception.line, line, text)

    def assert_wrong_line(self, line):
        """The line is wrong wherever it stands."""
        self.assert_wrong(1, line + "\n")
        self.assert_wrong(1, line + "\n100 101 a 1\n")
        self.assert_wrong(2, "-100 -99 a 1\n" + line + "\n")
        self.assert_wrong(2, "-100 -99 a 1\n" + line)

    def test_what_was_written_is_read(self):
        self.assert_plan(BEST)
        self.assert_plan(())
        self.assert_plan((piece((-7, 2), -1, "abc", (1, 9)), piece(-1, (-1, 3), "z", 1), piece(0, (1, 3), "y", 7)))
        for at, jobs in enumerate(job_lists(111, 60)):
            self.assert_plan(best_plan(jobs))
            self.assert_plan(other_plan(jobs, at))
            self.assert_plan(better(jobs, other_plan(jobs, at)) or ())

    def test_the_kinds_of_values(self):
        found = read_plan("-1/2 3 a 5/4\n")
        self.assertEqual(found, (((-1, 2), (3, 1), "a", (5, 4)),))
        kinds = [type(part) for part in (found, found[0], *found[0])]
        self.assertEqual(kinds, [tuple, tuple, tuple, tuple, str, tuple])

    def test_a_plan_that_is_not_tidy(self):
        self.assert_plan((piece(0, 1, "a", 2), piece(1, 2, "a", 2)))

    def test_ratios_that_are_not_in_lowest_terms(self):
        for word in ("2/4", "3/3", "0/2", "10/5", "4/6", "-2/4"):
            self.assert_wrong_line(f"{word} 90 a 1")
            self.assert_wrong_line(f"-9 90 a {word}")
        self.assert_wrong_line("0 4/2 a 1")

    def test_bottoms(self):
        numbers = ("1/0", "0/0", "1/1", "0/1", "5/1", "1/-2", "-1/-2", "1/+2", "1/02")
        for word in numbers + ("1/2/3", "1//2", "1/", "/2", "/"):
            self.assert_wrong_line(f"{word} 90 a 1")
            self.assert_wrong_line(f"-9 {word} a 1")
            self.assert_wrong_line(f"-9 90 a {word}")

    def test_signs_and_leading_zeros(self):
        numbers = ("-0", "+1", "01", "00", "-01", "-0/2", "01/2", "1e3", "1.5", "0x1", "1_0")
        for word in numbers + ("--1", "-", "- 1", "1-", ""):
            self.assert_wrong_line(f"{word} 90 a 1")
            self.assert_wrong_line(f"-9 90 a {word}")

    def test_speeds(self):
        for word in ("0", "-1", "-1/2", "-0"):
            self.assert_wrong_line(f"0 1 a {word}")

    def test_a_start_that_is_not_before_its_end(self):
        for words in ("1 1", "2 1", "1/2 1/3", "-1 -2", "1/2 1/2", "0 -1/2"):
            self.assert_wrong_line(f"{words} a 1")
        self.assertEqual(read_plan("-2 -1 a 1\n1/3 1/2 a 1\n"), (piece(-2, -1, "a", 1), piece((1, 3), (1, 2), "a", 1)))

    def test_a_piece_that_starts_before_the_piece_in_front_of_it_ends(self):
        self.assert_wrong(2, "0 2 a 1\n1 3 b 1\n")
        self.assert_wrong(2, "0 2 a 1\n0 2 a 1\n")
        self.assert_wrong(2, "0 2 a 1\n-1 0 a 1\n")
        self.assert_wrong(2, "0 1/2 a 1\n49/100 2 a 1\n")
        self.assert_wrong(3, "0 2 a 1\n2 3 b 1\n5/2 4 a 1\n9 8 a 1\n")
        self.assertEqual(read_plan("0 1/2 a 1\n1/2 2 b 1\n"), (piece(0, (1, 2), "a", 1), piece((1, 2), 2, "b", 1)))

    def test_names(self):
        for name in ("A", "a1", "abcdefghi", "a-b", "", "1", "_"):
            self.assert_wrong_line(f"0 1 {name} 1")
        self.assertEqual(read_plan("0 1 abcdefgh 1\n"), (piece(0, 1, "abcdefgh", 1),))

    def test_words(self):
        for line in ("0  1 a 1", " 0 1 a 1", "0 1 a 1 ", "0 1 a", "0 1 a 1 1", "0 1 1", "a", " ", "0\t1\ta\t1"):
            self.assert_wrong_line(line)
        self.assert_wrong(2, "0 1 a 1\n\n1 2 b 1\n")

    def test_200_and_201_digits(self):
        top = int(NINES)
        self.assertEqual(read_plan(f"-{NINES} {NINES} a 1/{NINES}\n"), (((-top, 1), (top, 1), "a", (1, top)),))
        self.assertEqual(read_plan(f"1/{NINES} {NINES}/2 a {NINES}\n"), (((1, top), (top, 2), "a", (top, 1)),))
        self.assert_plan(read_plan(f"1/{NINES} {NINES}/2 a {NINES}\n"))
        for word in ("1" + "0" * 200, "-1" + "0" * 200, "1/1" + "0" * 200, "1" * 5000, "1/" + "1" * 5000):
            self.assert_wrong_line(f"{word} 1{'0' * 199} a 1")
            self.assert_wrong_line(f"-9 90 a {word}")

    def test_a_text_that_does_not_end_with_a_newline(self):
        self.assert_wrong(1, "0 1 a 1")
        self.assert_wrong(2, "0 1 a 1\n1 2 b 1")
        self.assert_wrong(1, "0 1 a 0\n1 2 b 1")
        self.assert_wrong(1, " ")

    def test_a_line_behind_the_last_newline(self):
        self.assert_wrong(2, "0 1 a 1\nx")
        self.assert_wrong(2, "0 1 a 1\n ")
        self.assert_wrong(2, "0 1 a 1\n\n")
        self.assert_wrong(1, "\n")
        self.assertEqual(read_plan(""), ())

    def test_more_lines_than_jobs(self):
        plan = tuple(piece(at, at + 1, "a", at % 3 + 1) for at in range(-20, 20))
        self.assert_plan(plan)


if __name__ == "__main__":
    unittest.main()
