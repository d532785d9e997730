"""Prices: what a speed costs per unit of time, and what a plan costs."""

from sparewatts.ratios import ZERO, less, minus, plus, ratio, times, total
from sparewatts.stretches import stretches


def table_price(points, speed):
    """Return the price at a speed by the straight lines between the points of a table."""
    # The line that counts is the last one that begins below the speed: so the last line goes on
    # behind the last point. At the speed 0 no line begins below it, and the first point tells.
    base = points[0]
    slope = ZERO
    for low, high in zip(points, points[1:]):
        if less(ratio(low[0]), speed):
            base = low
            slope = ratio(high[1] - low[1], high[0] - low[0])
    return plus(ratio(base[1]), times(slope, minus(speed, ratio(base[0]))))


def price_at(price, speed):
    """Return the price at a speed of at least 0."""
    if price[0] == "square":
        return times(speed, speed)
    return table_price(price[1], speed)


def cost(plan, price, begin, end):
    """Return the cost of the time from begin to end (integers), its idle times included."""
    costs = []
    for stretch in stretches(plan, begin, end):
        costs.append(times(price_at(price, stretch[3]), minus(stretch[1], stretch[0])))
    return total(costs)
