"""Journals: the lines from which a runner is made again."""

from sparewatts.errors import BadJournal, Refused
from sparewatts.jobs import LATEST, MOST_DIGITS, is_job
from sparewatts.runner import Runner
from sparewatts.words import is_name, whole

CAP_DIGITS = 9


def read_start(words):
    """Return ("runner", cap) if the words are those of the first line of a journal, otherwise None."""
    if len(words) == 1:
        return ("runner", None)
    if len(words) != 2:
        return None
    cap = whole(words[1], CAP_DIGITS)
    if cap is None or cap == 0:
        return None
    return ("runner", cap)


def read_advance(words):
    """Return ("advance", time) if the words are those of such a line, otherwise None."""
    if len(words) != 2:
        return None
    time = whole(words[1], MOST_DIGITS)
    if time is None:
        return None
    return ("advance", time)


def read_offer(words):
    """Return ("offer", name, due, work) if the words are those of such a line, otherwise None."""
    if len(words) != 4 or not is_name(words[1]):
        return None
    due = whole(words[2], MOST_DIGITS)
    work = whole(words[3], MOST_DIGITS)
    if due is None or work is None:
        return None
    return ("offer", words[1], due, work)


def read_entry(line):
    """Return what a line of a journal tells, a tuple with its first word in front, or None."""
    words = line.split(" ")
    if words[0] == "runner":
        return read_start(words)
    if words[0] == "advance":
        return read_advance(words)
    if words[0] == "offer":
        return read_offer(words)
    return None


def advanced(runner, time):
    """Advance the runner and return True, or return False if that cannot happen."""
    if not runner.time() <= time <= LATEST:
        return False
    runner.advance(time)
    return True


def offered(runner, name, due, work):
    """Offer the runner a job and return True, or return False if that cannot happen."""
    if not is_job(name, runner.time(), due, work):
        return False
    try:
        runner.offer(name, due, work)
    except Refused:
        return False
    return True


def happens(runner, entry):
    """Let the runner do what a line behind the first one tells and return True, or return False."""
    if entry is None or entry[0] == "runner":
        return False
    if entry[0] == "advance":
        return advanced(runner, entry[1])
    return offered(runner, entry[1], entry[2], entry[3])


def replay(lines):
    """Return a runner to which all has happened that the lines tell, or raise BadJournal."""
    entries = [read_entry(line) for line in lines]
    if len(entries) > 1 and entries[-1] is None:
        # The last line was torn.
        entries = entries[:-1]
    if entries == [] or entries[0] is None or entries[0][0] != "runner":
        raise BadJournal(1)
    runner = Runner(entries[0][1])
    for index, entry in enumerate(entries):
        if index > 0 and not happens(runner, entry):
            raise BadJournal(index + 1)
    return runner
