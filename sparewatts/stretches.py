"""Stretches: what a plan does in a time, with the idle times in it."""

from sparewatts.ratios import ZERO, greater, less, lesser, ratio


def stretches(plan, begin, end):
    """Return the list of the stretches from begin to end (integers), in the order of their times.

    A stretch is (start, end, name, speed): a piece as far as it lies in this time, or an idle
    time, with None as its name and the speed 0. Each has a length above 0.
    """
    at = ratio(begin)
    last = ratio(end)
    found = []
    for piece in plan:
        start = lesser(greater(piece[0], at), last)
        stop = lesser(piece[1], last)
        if less(at, start):
            found.append((at, start, None, ZERO))
        if less(start, stop):
            found.append((start, stop, piece[2], piece[3]))
        # A piece in front of begin ends before the time that has been told so far.
        at = greater(at, stop)
    if less(at, last):
        found.append((at, last, None, ZERO))
    return found
