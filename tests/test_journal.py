"""Point 33: journals, from which a runner is made again."""

import random
import re
import unittest

from samples import job_lists

from sparewatts.errors import BadJournal, Refused
from sparewatts.journal import replay
from sparewatts.runner import Runner

NUMBER = "(0|[1-9][0-9]{0,4})"
FORM = re.compile(f"runner( [1-9][0-9]{{0,8}})?|advance {NUMBER}|offer [a-z]{{1,8}} {NUMBER} {NUMBER}")


def state(runner):
    return (runner.time(), runner.taken(), runner.left(), runner.done(), runner.course(), runner.lines())


def has_form(line):
    return FORM.fullmatch(line) is not None


def plain_replay(lines):
    """The runner on the words of point 33, or the number of the wrong line."""
    if len(lines) > 1 and not has_form(lines[-1]):
        lines = lines[:-1]
    if not lines or not has_form(lines[0]) or not lines[0].startswith("runner"):
        return 1
    words = lines[0].split()
    runner = Runner(*[int(word) for word in words[1:]])
    for number, line in enumerate(lines[1:], start=2):
        if not has_form(line) or line.startswith("runner"):
            return number
        words = line.split()
        if words[0] == "advance":
            if not runner.time() <= int(words[1]) <= 10000:
                return number
            runner.advance(int(words[1]))
        else:
            due, work = int(words[2]), int(words[3])
            if not runner.time() < due <= 10000 or not 1 <= work <= 10000:
                return number
            try:
                runner.offer(words[1], due, work)
            except Refused:
                return number
    return runner


def runs(seed, many):
    """Runners to which things have happened, with and without a cap."""
    chance = random.Random(seed)
    found = []
    for at, jobs in enumerate(job_lists(seed, many, most=8, span=20)):
        runner = Runner() if at % 3 == 0 else Runner(at % 3)
        for name, comes, due, work in sorted(jobs, key=lambda job: job[1]):
            runner.advance(comes)
            runner.offer(name, due, work)
        runner.advance(comes + chance.randint(0, 5))
        found.append(runner)
    return found


class JournalTest(unittest.TestCase):
    def assert_wrong(self, line, lines):
        with self.assertRaises(BadJournal, msg=lines) as caught:
            replay(lines)
        self.assertEqual(caught.exception.line, line, lines)
        self.assertEqual(plain_replay(lines), line)

    def assert_lines(self, lines, expected=None):
        """The lines are right, and the new runner has these lines."""
        runner = replay(lines)
        self.assertEqual(runner.lines(), lines if expected is None else expected)
        self.assertEqual(state(runner), state(plain_replay(lines)))
        return runner


class ReplayTest(JournalTest):
    def test_the_example(self):
        runner = Runner()
        runner.offer("a", 10, 10)
        runner.advance(2)
        runner.offer("b", 4, 6)
        runner.advance(7)
        found = replay(["runner", "offer a 10 10", "advance 2", "offer b 4 6", "advance 7"])
        self.assertIs(type(found), Runner)
        self.assertEqual(state(found), state(runner))

    def test_the_first_line_alone(self):
        self.assert_lines(["runner"])
        self.assert_lines(["runner 7"])

    def test_the_cap_is_kept(self):
        runner = self.assert_lines(["runner 2"])
        self.assertEqual(runner.offer("a", 4, 9), 4)
        self.assertIsNone(self.assert_lines(["runner"]).offer("a", 4, 9))

    def test_the_same_state_and_the_same_lines(self):
        taken = 0
        offered = 0
        for runner in runs(101, 120):
            found = replay(runner.lines())
            self.assertEqual(state(found), state(runner))
            taken += len(runner.taken())
            offered += len([line for line in runner.lines() if line.startswith("offer")])
            for one in (runner, found):
                one.advance(10000)
            self.assertEqual(state(found), state(runner))
        self.assertLess(taken, offered)

    def test_offers_that_were_not_taken(self):
        lines = ["runner 2", "offer a 4 9", "offer a 4 8", "offer b 5 3", "advance 4", "offer b 5 2"]
        runner = self.assert_lines(lines)
        self.assertEqual(runner.taken(), (("a", 0, 4, 8), ("b", 4, 5, 2)))

    def test_the_list_that_is_passed_stays_as_it_was(self):
        for lines in (["runner", "advance 3"], ["runner", "advance 3", "adv"]):
            before = list(lines)
            runner = replay(lines)
            self.assertEqual(lines, before)
            runner.advance(9)
            self.assertEqual(lines, before)

    def test_the_greatest_numbers(self):
        self.assert_lines(["runner 999999999", "advance 0", "offer abcdefgh 10000 10000", "advance 10000"])


class FirstLineTest(JournalTest):
    def test_the_empty_list(self):
        self.assert_wrong(1, [])

    def test_a_wrong_first_line(self):
        wrong = ["", "run", "Runner", "runner ", " runner", "runner 5 5", "runner  5", "runner a", "runners"]
        for line in wrong + ["advance 3", "offer a 9 9", "runner\n", "adv"]:
            self.assert_wrong(1, [line])
            self.assert_wrong(1, [line, "advance 3"])
            self.assert_wrong(1, [line, "runner"])
            self.assert_wrong(1, [line, "adv"])
            self.assert_wrong(1, [line, "adv", "advance 3"])

    def test_caps(self):
        self.assert_lines(["runner 1"])
        self.assert_lines(["runner 999999999"])
        self.assert_lines(["runner 123456"])
        for cap in ("0", "1000000000", "0000000001", "01", "-1", "+1", "1.5", "00"):
            self.assert_wrong(1, [f"runner {cap}"])
            self.assert_wrong(1, [f"runner {cap}", "advance 3"])


class TornTest(JournalTest):
    START = ["runner", "offer a 9 5", "advance 3"]
    TORN = ("", "a", "adv", "advance", "advance ", "advance  4", "advance 4 ", " advance 4", "advance 4 4", "offer")
    MORE = ("offer b", "offer b 9", "offer b 9 ", "offer b 9 5 ", "offer b 9 5 5", "offer B 9 5", "offer abcdefghi 9 5")
    BAD_INTEGERS = ("advance +4", "advance -4", "advance 04", "advance 00004", "advance 100000", "advance x")
    BAD_OFFERS = ("offer b +9 5", "offer b 9 05", "offer b 9 -5", "offer b 100000 5", "offer b 9 100000", "offer  9 5")
    BAD_CAPS = ("runner 0", "runner ", "runner 1000000000", "runner 5 5")

    def all_torn(self):
        return self.TORN + self.MORE + self.BAD_INTEGERS + self.BAD_OFFERS + self.BAD_CAPS

    def test_a_torn_last_line_is_dropped(self):
        for line in self.all_torn():
            self.assert_lines(self.START + [line], self.START)
            self.assert_lines(["runner 4", line], ["runner 4"])

    def test_a_torn_line_that_is_not_the_last(self):
        for line in self.all_torn():
            self.assert_wrong(4, self.START + [line, "advance 5"])
            self.assert_wrong(2, ["runner", line, "advance 5"])

    def test_only_one_line_is_dropped(self):
        self.assert_wrong(4, self.START + ["adv", "adv"])
        self.assert_wrong(2, ["runner", "adv", "adv"])

    def test_the_other_lines_are_judged_as_if_it_had_not_been_there(self):
        self.assert_wrong(2, ["runner", "runner", "adv"])
        self.assert_wrong(4, self.START + ["advance 2", "adv"])

    def test_a_journal_cut_at_each_place(self):
        wrong = 0
        lines = ["runner 12", "offer abc 120 500", "advance 17", "offer b 20 36", "offer c 21 17", "advance 1234"]
        text = "\n".join(self.assert_lines(lines).lines())
        for place in range(len(text) + 1):
            wrong += self.assert_as_told(text[:place].split("\n"))
        # The cut ones whose first line is none, and those whose last line goes back or is due too early.
        self.assertGreater(wrong, 6)

    def test_many_journals_cut_at_each_place(self):
        for runner in runs(102, 12):
            text = "\n".join(runner.lines())
            for place in range(len(text) + 1):
                self.assert_as_told(text[:place].split("\n"))

    def assert_as_told(self, lines):
        """The answer is that of the words of point 33; 1 is returned for a wrong journal, otherwise 0."""
        expected = plain_replay(lines)
        if isinstance(expected, int):
            self.assert_wrong(expected, lines)
            return 1
        self.assertEqual(state(replay(lines)), state(expected))
        return 0

    def test_journals_that_are_changed_at_random(self):
        chance = random.Random(103)
        for runner in runs(104, 200):
            lines = runner.lines()
            for _ in range(chance.randint(1, 3)):
                at = chance.randrange(len(lines))
                change = chance.randint(0, 3)
                if change == 0:
                    lines[at] = lines[chance.randrange(len(lines))]
                elif change == 1:
                    more = ("runner", "runner 3", "advance 9", "offer a 9 9")
                    lines.insert(at, chance.choice(self.all_torn() + more))
                elif change == 2 and lines[at]:
                    place = chance.randrange(len(lines[at]))
                    lines[at] = lines[at][:place] + chance.choice(" 0195ab") + lines[at][place + 1 :]
                else:
                    lines[at] += chance.choice([" ", "0", "00", " 1"])
            self.assert_as_told(lines)


class LaterLineTest(JournalTest):
    def assert_wrong_everywhere(self, start, line):
        """A line of one of the forms is no torn one: it is wrong as the last line, too."""
        self.assertTrue(has_form(line))
        self.assert_wrong(len(start) + 1, start + [line])
        self.assert_wrong(len(start) + 1, start + [line, "advance 9999"])
        self.assert_wrong(len(start) + 1, start + [line, "torn"])

    def test_a_second_runner_line(self):
        self.assert_wrong_everywhere(["runner"], "runner")
        self.assert_wrong_everywhere(["runner 5", "advance 3"], "runner 5")

    def test_a_time_that_goes_back(self):
        self.assert_wrong_everywhere(["runner", "advance 3"], "advance 2")
        self.assert_wrong_everywhere(["runner", "advance 3", "advance 10"], "advance 0")
        self.assert_lines(["runner", "advance 3", "advance 3"])

    def test_a_time_above_10000(self):
        self.assert_wrong_everywhere(["runner"], "advance 10001")
        self.assert_wrong_everywhere(["runner"], "advance 99999")
        self.assert_lines(["runner", "advance 10000"])

    def test_due_times(self):
        start = ["runner", "advance 3"]
        for due in (0, 2, 3, 10001, 99999):
            self.assert_wrong_everywhere(start, f"offer a {due} 1")
        self.assert_lines(start + ["offer a 4 1"])
        self.assert_lines(start + ["offer a 10000 1"])
        self.assert_wrong_everywhere(["runner", "advance 10000"], "offer a 10000 1")

    def test_works(self):
        for work in (0, 10001, 99999):
            self.assert_wrong_everywhere(["runner"], f"offer a 9 {work}")
            self.assert_wrong_everywhere(["runner 1"], f"offer a 9 {work}")
        self.assert_lines(["runner", "offer a 9 1", "offer b 9 10000"])

    def test_a_name_that_is_taken(self):
        self.assert_wrong_everywhere(["runner", "offer a 9 1"], "offer a 8 2")
        self.assert_wrong_everywhere(["runner 1", "offer a 9 1"], "offer a 8 2000")

    def test_a_thirteenth_job(self):
        start = ["runner"] + [f"offer {name} 9 1" for name in "abcdefghijkl"]
        self.assert_lines(start)
        self.assert_wrong_everywhere(start, "offer m 9 1")

    def test_the_first_wrong_line_counts(self):
        self.assert_wrong(2, ["runner", "advance 10001", "runner", "torn"])
        self.assert_wrong(3, ["runner", "advance 5", "advance 4", "advance 3"])


if __name__ == "__main__":
    unittest.main()
