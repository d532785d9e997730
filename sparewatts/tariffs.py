"""Tariffs: tuples of pairs (start, factor) that tell from when on the square of the speed costs how much."""

from math import lcm

from sparewatts.planner import best_plan
from sparewatts.plans import tidy
from sparewatts.prices import cost
from sparewatts.ratios import minus, over, plus, ratio, times, total
from sparewatts.stretches import stretches

SQUARE = ("square",)
UNIT = 2520


def periods(tariff, begin, end):
    """Return the list of (start, stop, factor) of the times with one factor between begin and end (integers)."""
    stops = [start for start, factor in tariff[1:]] + [end]
    found = []
    for (start, factor), stop in zip(tariff, stops):
        first = max(start, begin)
        last = min(stop, end)
        if first < last:
            found.append((first, last, factor))
    return found


def tariff_cost(plan, tariff, begin, end):
    """Return the cost of the time from begin to end (integers) under the tariff."""
    costs = []
    for start, stop, factor in periods(tariff, begin, end):
        costs.append(times(ratio(factor), cost(plan, SQUARE, start, stop)))
    return total(costs)


def rated_periods(jobs, tariff):
    """Return the list of (start, stop, rate) of the times with one factor until the last job is due.

    The rate is the stretched length of a unit of time.
    """
    unit = UNIT
    for start, factor in tariff:
        # It stays as it is for the factors that a tariff may have: they all divide it.
        unit = lcm(unit, factor)
    latest = max([job[2] for job in jobs], default=0)
    return [(start, stop, unit // factor) for start, stop, factor in periods(tariff, 0, latest)]


def stretched(rated, time):
    """Return the stretched time of a time, both integers."""
    return sum([(min(stop, time) - start) * rate for start, stop, rate in rated if start < time])


def brought_back(stretch, start, begin, rate):
    """Return the piece that is this one in stretched time; begin is the stretched time of start."""
    ends = [plus(ratio(start), over(minus(moment, ratio(begin)), ratio(rate))) for moment in stretch[:2]]
    return (ends[0], ends[1], stretch[2], times(stretch[3], ratio(rate)))


def tariff_plan(jobs, tariff):
    """Return the plan, tidy, that does the job list and costs the least under the tariff."""
    rated = rated_periods(jobs, tariff)
    moved = [(name, stretched(rated, comes), stretched(rated, due), work) for name, comes, due, work in jobs]
    plan = best_plan(tuple(moved))
    pieces = []
    for start, stop, rate in rated:
        begin = stretched(rated, start)
        for stretch in stretches(plan, begin, stretched(rated, stop)):
            if stretch[2] is not None:
                pieces.append(brought_back(stretch, start, begin, rate))
    return tidy(pieces)
