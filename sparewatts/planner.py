"""The best plan of a job list."""

from sparewatts.plans import tidy
from sparewatts.ratios import ZERO, less, lesser, minus, over, plus, ratio, times
from sparewatts.rounds import rounds_of, with_ratios


def slots(jobs):
    """Return the list of the times of all rounds, in ascending order.

    Each slot is (start, end, speed, jobs): two integers, and the speed and the jobs of its round.
    """
    found = []
    for speed, names, pairs in rounds_of(jobs):
        own = [job for job in jobs if job[0] in names]
        for start, end in pairs:
            found.append((start, end, speed, own))
    return sorted(found, key=lambda slot: slot[0])


def contains(job, time):
    """Return True if the window of the job contains the time, a ratio."""
    return not less(time, ratio(job[1])) and less(time, ratio(job[2]))


def first_due(jobs, left, time):
    """Return the job to work on at this time; left tells the work of each job that is not done.

    It is the one that is due first, and of several the one that stands first.
    """
    chosen = None
    for job in jobs:
        if not contains(job, time) or left[job[0]] == ZERO:
            continue
        if chosen is None or job[2] < chosen[2]:
            chosen = job
    return chosen


def piece_from(at, slot, left):
    """Return the piece of the slot that starts at this time.

    It ends when its job is done, when another job comes, or when the slot ends.
    """
    end, speed, jobs = slot[1:]
    # No time of a round is without such a job, as no part of the round is denser than the whole.
    name = first_due(jobs, left, at)[0]
    until = lesser(ratio(end), plus(at, over(left[name], speed)))
    for job in jobs:
        comes = ratio(job[1])
        if less(at, comes):
            until = lesser(until, comes)
    return (at, until, name, speed)


def plan_of(jobs):
    """Return the best plan, tidy, of jobs whose works are ratios."""
    left = {job[0]: job[3] for job in jobs}
    pieces = []
    for slot in slots(jobs):
        at = ratio(slot[0])
        end = ratio(slot[1])
        while less(at, end):
            piece = piece_from(at, slot, left)
            name = piece[2]
            left[name] = minus(left[name], times(piece[3], minus(piece[1], at)))
            pieces.append(piece)
            at = piece[1]
    return tidy(pieces)


def best_plan(jobs):
    """Return the best plan of a job list, tidy."""
    return plan_of(with_ratios(jobs))
