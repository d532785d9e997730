"""Machines that work only at fixed speeds, their levels: tuples of pairs (speed, cost)."""

from sparewatts.errors import TooFast
from sparewatts.plans import tidy
from sparewatts.ratios import ZERO, less, minus, over, plus, ratio, times, total
from sparewatts.stretches import stretches


def is_useful(levels, index):
    """Return True if the level costs less than every mixture; of the first and the last one there is none."""
    speed, price = levels[index]
    for slow, slow_price in levels[:index]:
        for fast, fast_price in levels[index + 1 :]:
            # The cost on the line between the two, times the difference of their speeds.
            mixed = slow_price * (fast - speed) + fast_price * (speed - slow)
            if price * (fast - slow) >= mixed:
                return False
    return True


def useful(levels):
    """Return the tuple of the useful levels."""
    return tuple([level for index, level in enumerate(levels) if is_useful(levels, index)])


def leveled_piece(piece, speeds):
    """Return the list of the pieces that replace this one; the last of the speeds is no less than its speed."""
    start, end, name, speed = piece
    above = 0
    while less(speeds[above], speed):
        above += 1
    fast = speeds[above]
    if speed == fast:
        return [piece]
    slow = speeds[above - 1]
    share = over(minus(speed, slow), minus(fast, slow))
    change = plus(start, times(share, minus(end, start)))
    if slow == ZERO:
        return [(start, change, name, fast)]
    return [(start, change, name, fast), (change, end, name, slow)]


def leveled(plan, levels):
    """Return the plan, tidy, that does the same work with the useful levels, or raise TooFast."""
    speeds = [ratio(level[0]) for level in useful(levels)]
    pieces = []
    for index, piece in enumerate(plan):
        if less(speeds[-1], piece[3]):
            raise TooFast(index)
        pieces.extend(leveled_piece(piece, speeds))
    return tidy(pieces)


def level_cost(plan, levels, begin, end):
    """Return the cost of the time from begin to end (integers) for a plan whose speeds are levels."""
    prices = {ratio(speed): ratio(price) for speed, price in levels}
    costs = []
    for stretch in stretches(plan, begin, end):
        costs.append(times(prices[stretch[3]], minus(stretch[1], stretch[0])))
    return total(costs)
