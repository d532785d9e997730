"""The account of what a runner has spent, beside any other plan that does its jobs."""

from sparewatts.ratios import ZERO, less, minus, over, plus, ratio, times, total

TWO = (2, 1)


def merged(first, second):
    """Return the ratios of two ascending lists in one, in ascending order, each once."""
    both = []
    at = 0
    for moment in first:
        while at < len(second) and less(second[at], moment):
            both.append(second[at])
            at += 1
        both.append(moment)
    both.extend(second[at:])
    return [moment for index, moment in enumerate(both) if index == 0 or both[index - 1] != moment]


def ends_of(plan):
    """Return the list of the times at which pieces start or end, in ascending order."""
    found = []
    for piece in plan:
        found.append(piece[0])
        found.append(piece[1])
    return found


def moments_of(taken, done, rival):
    """Return the list of the times that have a row, in ascending order."""
    comings = [ratio(comes) for comes in sorted(set([0] + [job[1] for job in taken]))]
    return merged(merged(comings, ends_of(done)), ends_of(rival))


def states(taken, plan, moments):
    """Return a list of (spent, left) for these times, between which no piece of the plan starts or ends.

    spent is the cost by the square from 0 to the time, and left a dict that tells what is left of each job.
    """
    spent = ZERO
    left = {job[0]: ratio(job[3]) for job in taken}
    found = [(spent, left)]
    at = 0
    for now, later in zip(moments, moments[1:]):
        if at < len(plan) and not less(now, plan[at][0]):
            start, end, name, speed = plan[at]
            work = times(speed, minus(later, now))
            spent = plus(spent, times(speed, work))
            left = {**left, name: minus(left[name], work)}
            if end == later:
                at += 1
        found.append((spent, left))
    return found


def steps_of(jobs, left, rival_left, now):
    """Return a list of (due, work, rival_work), in ascending order, for the times at which jobs are due after now.

    work and rival_work are what the runner and the rival have left of the jobs that are due at this time.
    """
    found = []
    for due in sorted({job[2] for job in jobs}):
        if less(now, ratio(due)):
            names = [job[0] for job in jobs if job[2] == due]
            work = total([left[name] for name in names])
            rival_work = total([rival_left[name] for name in names])
            found.append((ratio(due), work, rival_work))
    return found


def first_stretch(steps, begin):
    """Return (speed, many) of the stretch of the course that starts at begin: it has so many of the steps."""
    best = None
    work = ZERO
    for index, step in enumerate(steps):
        work = plus(work, step[1])
        speed = over(work, minus(step[0], begin))
        # Of equal speeds the last one is taken: a stretch goes on as long as its speed.
        if best is None or not less(speed, best[0]):
            best = (speed, index + 1)
    return best


def store(steps, now):
    """Return the store at this time."""
    parts = []
    begin = now
    while steps != []:
        # When all is done, the last stretch has the speed 0 and adds nothing.
        speed, many = first_stretch(steps, begin)
        work = total([step[1] for step in steps[:many]])
        rival_work = total([step[2] for step in steps[:many]])
        parts.append(times(times(TWO, speed), minus(work, times(TWO, rival_work))))
        begin = steps[many - 1][0]
        steps = steps[many:]
    return total(parts)


def account(taken, done, rival):
    """Return the tuple of the rows (time, spent, rival_spent, store)."""
    moments = moments_of(taken, done, rival)
    own_states = states(taken, done, moments)
    rival_states = states(taken, rival, moments)
    rows = []
    for now, (spent, left), (rival_spent, rival_left) in zip(moments, own_states, rival_states):
        come = [job for job in taken if not less(now, ratio(job[1]))]
        steps = steps_of(come, left, rival_left, now)
        rows.append((now, spent, rival_spent, store(steps, now)))
    return tuple(rows)
