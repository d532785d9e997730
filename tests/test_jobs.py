"""Points 4 to 6: jobs and their texts."""

import unittest

from sparewatts.errors import BadText
from sparewatts.jobs import read_jobs, write_jobs

NAMES = ("a", "b", "c", "d", "e", "f", "g", "h", "i", "j", "k", "l", "m")
TWELVE = tuple((name, 2 * at, 60 - at, at + 1) for at, name in enumerate(NAMES[:12]))
BOUNDS = (("a", 0, 1, 1), ("abcdefgh", 0, 10000, 10000), ("z", 9999, 10000, 1))


class WriteTest(unittest.TestCase):
    def test_empty(self):
        self.assertEqual(write_jobs(()), "")

    def test_one_line_for_each_job(self):
        jobs = (("wash", 0, 10, 7), ("b", 2, 4, 10000))
        self.assertEqual(write_jobs(jobs), "wash 0 10 7\nb 2 4 10000\n")


class ReadTest(unittest.TestCase):
    def test_what_is_written_is_read_back(self):
        for jobs in ((), (("a", 0, 10, 10), ("b", 2, 4, 6)), TWELVE, BOUNDS, BOUNDS[::-1]):
            found = read_jobs(write_jobs(jobs))
            self.assertEqual(found, jobs)
            self.assertIs(type(found), tuple)
            for job in found:
                self.assertIs(type(job), tuple)

    def test_the_empty_text(self):
        self.assertEqual(read_jobs(""), ())

    def test_lines_within_the_limits(self):
        for line in ("a 0 1 1", "z 0 10000 10000", "abcdefgh 9999 10000 10000", "zzzzzzzz 10 20 100"):
            name, comes, due, work = line.split(" ")
            job = (name, int(comes), int(due), int(work))
            self.assertEqual(read_jobs(line + "\n"), (job,))


class BadLineTest(unittest.TestCase):
    def assert_bad(self, text, line):
        with self.assertRaises(BadText) as caught:
            read_jobs(text)
        self.assertEqual(caught.exception.line, line, text)

    def assert_bad_line(self, line):
        """The line is wrong wherever it stands, ended or not."""
        self.assert_bad(line + "\n", 1)
        self.assert_bad("ok 0 1 1\n" + line + "\n", 2)
        self.assert_bad("ok 0 1 1\n" + line + "\nalso 0 1 1\n", 2)
        if line != "":
            self.assert_bad(line, 1)
            self.assert_bad("ok 0 1 1\n" + line, 2)

    def test_names(self):
        for name in ("", "A", "aB", "abcdefghi", "a1", "1", "a-b", "a_b", "`", "{", "a.b", "a\tb"):
            self.assert_bad_line(name + " 0 1 1")

    def test_times_beyond_their_limits(self):
        for times in ("0 10001", "9999 10001", "10000 10001", "10000 10000", "0 0", "5 5", "6 5"):
            self.assert_bad_line("a " + times + " 1")

    def test_works_beyond_their_limits(self):
        for work in ("0", "10001", "99999", "100000", "9" * 5000):
            self.assert_bad_line("a 0 1 " + work)

    def test_leading_zeros(self):
        for rest in ("00 1 1", "0 01 1", "0 1 01", "01 2 1", "0 010000 1", "0 1 00001"):
            self.assert_bad_line("a " + rest)

    def test_signs(self):
        for rest in ("-0 1 1", "+0 1 1", "-1 1 1", "0 +1 1", "0 1 +1", "0 1 -1"):
            self.assert_bad_line("a " + rest)

    def test_what_is_no_integer(self):
        for rest in ("x 1 1", "0 1.0 1", "0 1 1/1", "0 1 1_0", "0 1 0x1", "0 1e1 1"):
            self.assert_bad_line("a " + rest)

    def test_spaces(self):
        for line in ("a  0 1 1", "a 0  1 1", "a 0 1  1", " a 0 1 1", "a 0 1 1 ", "a\t0 1 1", " ", "    "):
            self.assert_bad_line(line)

    def test_words_too_few_and_too_many(self):
        for line in ("a", "a 0", "a 0 1", "0 1 1", "a 0 1 1 1", "a b 0 1 1"):
            self.assert_bad_line(line)

    def test_empty_lines(self):
        self.assert_bad_line("")
        self.assert_bad("a 0 1 1\n\n", 2)
        self.assert_bad("\n\n", 1)

    def test_a_name_that_an_earlier_line_has(self):
        self.assert_bad("a 0 1 1\nb 0 1 1\na 3 4 5\n", 3)
        self.assert_bad("a 0 1 1\na 0 1 1\n", 2)
        self.assert_bad("a 0 1 1\nb 0 1 1\na 3 4 5", 3)

    def test_the_thirteenth_line(self):
        text = write_jobs(TWELVE)
        self.assertEqual(len(read_jobs(text)), 12)
        self.assert_bad(text + "m 0 1 1\n", 13)
        self.assert_bad(text + "m 0 1 1", 13)
        self.assert_bad(text + "m 0 1 1\nn 0 1 1\n", 13)
        self.assert_bad(text + "\n", 13)

    def test_no_newline_at_the_end(self):
        self.assert_bad("a 0 1 1", 1)
        self.assert_bad("a 0 1 1\nb 0 1 1", 2)
        self.assert_bad(write_jobs(TWELVE)[:-1], 12)

    def test_the_first_of_several_wrong_lines(self):
        self.assert_bad("a 0 1 1\nb 1 1 1\nC 0 1 1\n", 2)
        self.assert_bad("a 0 1 1\na 0 1 1\nb 0 1 0\n", 2)
        self.assert_bad("a 0 1 0\na 0 1 1\nb 0 1 1", 1)
        self.assert_bad("a 0 1 1\nb 0 1 01\nc 0 1 1", 2)
        self.assert_bad(write_jobs(TWELVE).replace("c 4", "C 4") + "m 0 1 1\n", 3)


if __name__ == "__main__":
    unittest.main()
