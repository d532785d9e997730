"""The rounds in which the best plan of a job list is made, and the speeds that they give.

Free time is a list of pairs (start, end) of integers in ascending order, no two of them adjacent.
"""

from sparewatts.ratios import ZERO, less, over, ratio, total


def with_ratios(jobs):
    """Return the jobs with their works, integers in a job list, as ratios."""
    return [(name, comes, due, ratio(work)) for name, comes, due, work in jobs]


def all_time(jobs):
    """Return the free time that contains all windows."""
    begin = min([job[1] for job in jobs], default=0)
    end = max([job[2] for job in jobs], default=0)
    return [(begin, end)]


def free_between(free, begin, end):
    """Return the part of the free time that lies between begin and end."""
    cut = [(max(start, begin), min(stop, end)) for start, stop in free]
    return [(start, stop) for start, stop in cut if start < stop]


def free_outside(free, begin, end):
    """Return the part of the free time that lies in front of begin or behind end."""
    in_front = free_between(free, free[0][0], begin)
    behind = free_between(free, end, free[-1][1])
    return in_front + behind


def free_length(free, begin, end):
    """Return the length of the free time between begin and end."""
    return sum([stop - start for start, stop in free_between(free, begin, end)])


def free_windows(jobs, free):
    """Return a list of (first, last, job): the first and the last of each job's free window."""
    found = []
    for job in jobs:
        # It is never empty: a job stays open only if its free window goes beyond the time
        # that the round takes.
        window = free_between(free, job[1], job[2])
        found.append((window[0][0], window[-1][1], job))
    return found


def lies_in(window, a, b):
    """Return True if the first of the free window is at least a and its last at most b."""
    return a <= window[0] and window[1] <= b


def density(windows, free, a, b):
    """Return the density of (a, b), or 0 if its load is 0."""
    works = [window[2][3] for window in windows if lies_in(window, a, b)]
    if works == []:
        return ZERO
    return over(total(works), ratio(free_length(free, a, b)))


def densest(windows, free):
    """Return (density, a, b) of the pair of times that is taken, or (0, 0, 0) if no job is open."""
    firsts = {window[0] for window in windows}
    lasts = {window[1] for window in windows}
    best = (ZERO, 0, 0)
    for a in sorted(firsts):
        for b in sorted(lasts, reverse=True):
            found = density(windows, free, a, b)
            # An equal density does not replace: the pair with the least a and then the
            # greatest b was tried before the others.
            if less(best[0], found):
                best = (found, a, b)
    return best


def rounds_of(jobs):
    """Return the list of the rounds of jobs whose works are ratios."""
    open_jobs = list(jobs)
    free = all_time(jobs)
    found = []
    while open_jobs != []:
        windows = free_windows(open_jobs, free)
        speed, a, b = densest(windows, free)
        if speed == ZERO:
            # Only jobs without work, which no job list within its limits has, would never close.
            return found
        names = tuple([window[2][0] for window in windows if lies_in(window, a, b)])
        found.append((speed, names, tuple(free_between(free, a, b))))
        open_jobs = [window[2] for window in windows if not lies_in(window, a, b)]
        free = free_outside(free, a, b)
    return found


def rounds(jobs):
    """Return the list of the rounds of a job list, each as (speed, names, times)."""
    return rounds_of(with_ratios(jobs))


def speeds(jobs):
    """Return the tuple of the speeds of the jobs, in the order of the list."""
    by_name = {}
    for speed, names, pairs in rounds(jobs):
        for name in names:
            by_name[name] = speed
    return tuple([by_name.get(job[0], ZERO) for job in jobs])


def peak(jobs):
    """Return (speed, a, b) of the first round, or ((0, 1), 0, 0) for the empty list."""
    free = all_time(jobs)
    return densest(free_windows(with_ratios(jobs), free), free)
