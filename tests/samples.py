"""Job lists, plans and prices that several tests use; fractions stand for ratios here."""

import random
from fractions import Fraction

from sparewatts.ratios import ratio

EXAMPLE = (("a", 0, 10, 10), ("b", 2, 4, 6))


def piece(start, end, name, speed):
    """A piece from pairs that need not be in lowest terms, or from integers."""
    parts = [ratio(*part) if isinstance(part, tuple) else ratio(part) for part in (start, end, speed)]
    return (parts[0], parts[1], name, parts[2])


BEST = (piece(0, 2, "a", (5, 4)), piece(2, 4, "b", 3), piece(4, 10, "a", (5, 4)))


def fraction(pair):
    return Fraction(pair[0], pair[1])


def pair_of(number):
    return (number.numerator, number.denominator)


def fractions_of(plan):
    """The pieces of a plan, with fractions."""
    return [(fraction(start), fraction(end), name, fraction(speed)) for start, end, name, speed in plan]


def plan_from(pieces):
    """The plan of pieces with fractions."""
    return tuple((pair_of(start), pair_of(end), name, pair_of(speed)) for start, end, name, speed in pieces)


def job_lists(seed, many, most=5, span=9, work=6):
    """Small job lists, the same ones for the same seed; equal ends and equal works are frequent."""
    chance = random.Random(seed)
    found = []
    for _ in range(many):
        names = chance.sample("abcdefghijklmnop", chance.randint(1, most))
        jobs = []
        for name in names:
            comes = chance.randrange(span)
            due = chance.randint(comes + 1, span)
            jobs.append((name, comes, due, chance.randint(1, work)))
        found.append(tuple(jobs))
    return found


def shares(jobs, times, chance):
    """For each time between two neighbours of times, how much work is done on each job in it."""
    found = [{} for _ in times[1:]]
    for name, comes, due, work in jobs:
        inside = [at for at in range(len(times) - 1) if comes <= times[at] and times[at + 1] <= due]
        parts = {at: chance.randint(0, 3) for at in inside}
        parts[chance.choice(inside)] += 1
        whole = sum(parts.values())
        for at, part in parts.items():
            if part > 0:
                found[at][name] = Fraction(work * part, whole)
    return found


def other_plan(jobs, seed):
    """A plan that does the list, hardly ever the best one: at work and idle as chance wants it."""
    chance = random.Random(seed)
    ends = sorted({job[1] for job in jobs} | {job[2] for job in jobs})
    times = sorted(set(ends) | {chance.randint(ends[0], ends[-1]) for _ in range(3)})
    pieces = []
    for at, works in enumerate(shares(jobs, times, chance)):
        parts = [(name, chance.randint(1, 3)) for name in works]
        if chance.randint(0, 1):
            parts.append((None, chance.randint(1, 2)))
        chance.shuffle(parts)
        unit = Fraction(times[at + 1] - times[at], sum(part for _, part in parts) or 1)
        start = Fraction(times[at])
        for name, part in parts:
            end = start + unit * part
            if name is not None:
                pieces.append((start, end, name, works[name] / (end - start)))
            start = end
    return plan_from(pieces)


def convex_tables(seed, many):
    """Tables of 2 to 6 points whose slopes, below 0 or not, do not decrease."""
    chance = random.Random(seed)
    found = []
    for _ in range(many):
        slopes = sorted(chance.randint(-3, 6) for _ in range(chance.randint(1, 5)))
        points = [(0, 50)]
        for slope in slopes:
            step = chance.randint(1, 3)
            points.append((points[-1][0] + step, points[-1][1] + slope * step))
        found.append(("table", tuple(points)))
    return found
