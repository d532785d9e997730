"""Plans: tuples of pieces (start, end, name, speed) in the order of their times."""

from sparewatts.ratios import ZERO, greater, less, lesser, minus, plus, ratio, times


def in_window(piece, job):
    """Return True if the piece lies in the window of the job."""
    starts_early = less(piece[0], ratio(job[1]))
    ends_late = less(ratio(job[2]), piece[1])
    return not starts_early and not ends_late


def works_done(plan):
    """Return a dict that tells for each name in the plan how much work is done on it."""
    done = {}
    for start, end, name, speed in plan:
        work = times(speed, minus(end, start))
        done[name] = plus(done.get(name, ZERO), work)
    return done


def fault(jobs, plan):
    """Return None if the plan does the job list, otherwise what is wrong first."""
    by_name = {job[0]: job for job in jobs}
    for index, piece in enumerate(plan):
        if piece[2] not in by_name:
            return ("unknown", index)
    for index, piece in enumerate(plan):
        if not in_window(piece, by_name[piece[2]]):
            return ("window", index)
    done = works_done(plan)
    for job in jobs:
        if done.get(job[0], ZERO) != ratio(job[3]):
            return ("work", job[0])
    return None


def goes_on(piece, later):
    """Return True if the later piece only goes on with what the first one does."""
    return piece[1] == later[0] and piece[2] == later[2] and piece[3] == later[3]


def tidy(plan):
    """Return the tidy plan that works on the same jobs at the same times and speeds."""
    pieces = []
    for piece in plan:
        if pieces != [] and goes_on(pieces[-1], piece):
            start = pieces[-1][0]
            pieces[-1] = (start, piece[1], piece[2], piece[3])
        else:
            pieces.append(piece)
    return tuple(pieces)


def speed_at(plan, time):
    """Return the speed of the machine at this time; a piece contains its start, not its end."""
    for piece in plan:
        if not less(time, piece[0]) and less(time, piece[1]):
            return piece[3]
    return ZERO


def gaps(plan, begin, end):
    """Return the tuple of the pairs (start, end) of the idle times between begin and end."""
    idle_from = ratio(begin)
    last = ratio(end)
    found = []
    for piece in plan:
        idle_to = lesser(piece[0], last)
        if less(idle_from, idle_to):
            found.append((idle_from, idle_to))
        idle_from = greater(idle_from, piece[1])
    if less(idle_from, last):
        found.append((idle_from, last))
    return tuple(found)
