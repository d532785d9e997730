"""The runner: a machine that works without knowing which jobs are still to come."""

from sparewatts.errors import Refused
from sparewatts.jobs import MOST_JOBS
from sparewatts.planner import plan_of
from sparewatts.plans import tidy, works_done
from sparewatts.ratios import ZERO, greater, less, minus, ratio, total
from sparewatts.stretches import stretches


def pieces_until(plan, begin, end):
    """Return the pieces of the plan from begin to end (integers), cut where they go beyond."""
    return [stretch for stretch in stretches(plan, begin, end) if stretch[2] is not None]


def pieces_from(plan, time):
    """Return the pieces of the plan from the time (an integer) on, cut where they start before it."""
    begin = ratio(time)
    rest = [piece for piece in plan if less(begin, piece[1])]
    return tuple([(greater(start, begin), end, name, speed) for start, end, name, speed in rest])


def too_much_by(jobs, time, cap):
    """Return the least time by which the jobs, which come now, have too much work for the cap, or None."""
    # The time left grows and the load does so at due times only, so the least time is a due time.
    for due in sorted({job[2] for job in jobs}):
        works = [job[3] for job in jobs if job[2] <= due]
        if less(ratio(cap * (due - time)), total(works)):
            return due
    return None


class Runner:
    """A machine that takes jobs as they come, and always works by the best plan for what is left."""

    def __init__(self, cap=None):
        self._cap = cap
        self._time = 0
        self._taken = []
        self._left = {}
        self._done = ()
        self._course = ()
        self._lines = ["runner" if cap is None else f"runner {cap}"]

    def advance(self, time):
        """Work by the course until this time, an integer not less than the time of the runner."""
        worked = pieces_until(self._course, self._time, time)
        works = works_done(worked)
        self._left = {name: minus(self._left[name], works.get(name, ZERO)) for name in self._left}
        self._done = tidy([*self._done, *worked])
        # What the course still has is the best plan for the work that is left: all jobs have come.
        self._course = pieces_from(self._course, time)
        self._time = time
        self._lines.append(f"advance {time}")

    def offer(self, name, due, work):
        """Take a job that comes now and return None, or return a time by which there is too much work."""
        if name in self._left:
            raise Refused("name")
        if len(self._taken) >= MOST_JOBS:
            raise Refused("full")
        waiting = [*self._waiting(), (name, self._time, due, ratio(work))]
        late = None
        if self._cap is not None:
            # The course has a speed above the cap exactly if there is such a time.
            late = too_much_by(waiting, self._time, self._cap)
        if late is None:
            self._taken.append((name, self._time, due, work))
            self._left[name] = ratio(work)
            self._course = plan_of(waiting)
        self._lines.append(f"offer {name} {due} {work}")
        return late

    def _waiting(self):
        """Return the list of the jobs that are not done, with their left works, as if they came now."""
        left = self._left
        return [(job[0], self._time, job[2], left[job[0]]) for job in self._taken if left[job[0]] != ZERO]

    def time(self):
        """Return the time of the runner."""
        return self._time

    def taken(self):
        """Return the job list of the taken jobs; each comes at the time when it was taken."""
        return tuple(self._taken)

    def left(self):
        """Return the tuple of the works that are left of the taken jobs."""
        return tuple([self._left[job[0]] for job in self._taken])

    def done(self):
        """Return the tidy plan of all work so far."""
        return self._done

    def course(self):
        """Return the tidy plan of the course from now on."""
        return self._course

    def lines(self):
        """Return the list of the lines of the journal."""
        return list(self._lines)
