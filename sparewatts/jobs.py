"""Jobs: tuples (name, comes, due, work), and the texts of job lists."""

from sparewatts.errors import BadText
from sparewatts.words import is_name, whole

MOST_JOBS = 12
LATEST = 10000
MOST_WORK = 10000
MOST_DIGITS = 5


def is_job(name, comes, due, work):
    """Return True if these words and integers are those of a job."""
    if not is_name(name):
        return False
    return 0 <= comes < due <= LATEST and 1 <= work <= MOST_WORK


def write_jobs(jobs):
    """Return the text of a job list."""
    return "".join([f"{name} {comes} {due} {work}\n" for name, comes, due, work in jobs])


def read_job(line):
    """Return the job whose line it is, or None."""
    words = line.split(" ")
    if len(words) != 4:
        return None
    comes = whole(words[1], MOST_DIGITS)
    due = whole(words[2], MOST_DIGITS)
    work = whole(words[3], MOST_DIGITS)
    if comes is None or due is None or work is None:
        return None
    if not is_job(words[0], comes, due, work):
        return None
    return (words[0], comes, due, work)


def read_jobs(text):
    """Return the job list whose text it is, or raise BadText."""
    lines = text.split("\n")
    ended = lines[-1] == ""
    if ended:
        # Nothing stands behind the last newline, so no line begins there.
        lines = lines[:-1]
    jobs = []
    names = []
    for index, line in enumerate(lines):
        job = read_job(line)
        if job is None or job[0] in names or index >= MOST_JOBS:
            raise BadText(index + 1)
        jobs.append(job)
        names.append(job[0])
    if not ended:
        raise BadText(len(lines))
    return tuple(jobs)
