"""Books: job lists that are edited, with the best plans of their parts."""

from sparewatts.errors import Refused
from sparewatts.jobs import MOST_JOBS
from sparewatts.planner import best_plan


def groups(jobs):
    """Return the names of the jobs of each part, as lists, in the order of the times of the parts."""
    found = []
    reach = 0
    for name, comes, due, work in sorted(jobs, key=lambda job: job[1]):
        # The jobs come in turn, so a job that touches none of the part touches no job in front of it.
        if found == [] or comes >= reach:
            found.append([])
        found[-1].append(name)
        reach = max(reach, due)
    return found


def parts(jobs):
    """Return the list of the parts of a job list, in the order of their times."""
    found = []
    for names in groups(jobs):
        found.append(tuple([job for job in jobs if job[0] in names]))
    return found


class Book:
    """A job list that is edited."""

    def __init__(self):
        self._jobs = []
        self._plans = {}
        self._worked = 0

    def put(self, job):
        """Put a job behind the others, or in the place of the one with the same name."""
        names = [each[0] for each in self._jobs]
        if job[0] in names:
            self._jobs[names.index(job[0])] = job
        elif len(names) >= MOST_JOBS:
            raise Refused("full")
        else:
            self._jobs.append(job)

    def drop(self, name):
        """Remove the job with this name."""
        kept = [job for job in self._jobs if job[0] != name]
        if len(kept) == len(self._jobs):
            raise Refused("unknown")
        self._jobs = kept

    def jobs(self):
        """Return the job list."""
        return tuple(self._jobs)

    def plan(self):
        """Return the best plan of the book."""
        plans = {}
        pieces = []
        for part in parts(self._jobs):
            if part in self._plans:
                plans[part] = self._plans[part]
            else:
                plans[part] = best_plan(part)
                self._worked += 1
            pieces.extend(plans[part])
        # Only the parts of now are kept: one that comes back later is worked out again.
        self._plans = plans
        return tuple(pieces)

    def worked(self):
        """Return how many plans of parts were worked out since the book was made."""
        return self._worked
