"""The judge: whether a plan costs the least, and a cheaper plan if it does not."""

from sparewatts.plans import fault, tidy
from sparewatts.ratios import ZERO, greater, less, lesser, minus, over, plus, times
from sparewatts.stretches import stretches

HALF = (1, 2)


def slower_stretch(jobs, plan, piece):
    """Return the first stretch in the window of the piece's job that is slower than the piece, or None."""
    windows = {job[0]: (job[1], job[2]) for job in jobs}
    comes, due = windows[piece[2]]
    for stretch in stretches(plan, comes, due):
        if less(stretch[3], piece[3]):
            return stretch
    return None


def first_uneven(jobs, plan):
    """Return (piece, stretch) for the first piece that is faster than a stretch in its job's window.

    The stretch is the first such one in time. Return None if there is no such piece.
    """
    for piece in plan:
        stretch = slower_stretch(jobs, plan, piece)
        if stretch is not None:
            return (piece, stretch)
    return None


def is_least(jobs, plan):
    """Return True if the plan does the job list and costs the least, otherwise False."""
    if fault(jobs, plan) is not None:
        return False
    return first_uneven(jobs, plan) is None


def replaced(plan, start, end, pieces):
    """Return the plan with these pieces, and nothing else, from start to end."""
    in_front = [(piece[0], lesser(piece[1], start), piece[2], piece[3]) for piece in plan if less(piece[0], start)]
    behind = [(greater(piece[0], end), piece[1], piece[2], piece[3]) for piece in plan if less(end, piece[1])]
    return in_front + pieces + behind


def shared_pieces(stretch, end, name, speed):
    """Return the pieces from the start of the stretch to end: its own job's, then the named job's."""
    start = stretch[0]
    # The stretch's own job gets as much work as before, in less time.
    change = plus(start, over(times(minus(end, start), stretch[3]), speed))
    last = (change, end, name, speed)
    if stretch[3] == ZERO:
        return [last]
    return [(start, change, stretch[2], speed), last]


def better(jobs, plan):
    """Return None if the plan, which does the job list, costs the least, otherwise a cheaper plan."""
    uneven = first_uneven(jobs, plan)
    if uneven is None:
        return None
    piece, stretch = uneven
    length = lesser(minus(piece[1], piece[0]), minus(stretch[1], stretch[0]))
    speed = times(plus(piece[3], stretch[3]), HALF)
    piece_end = plus(piece[0], length)
    stretch_end = plus(stretch[0], length)
    slowed = replaced(plan, piece[0], piece_end, [(piece[0], piece_end, piece[2], speed)])
    shared = shared_pieces(stretch, stretch_end, piece[2], speed)
    return tidy(replaced(slowed, stretch[0], stretch_end, shared))
