"""Exact numbers: pairs (top, bottom) in lowest terms with bottom at least 1."""

from math import gcd

ZERO = (0, 1)


def ratio(top, bottom=1):
    """Return the ratio of two integers; bottom is not 0."""
    shared = gcd(top, bottom)
    if bottom < 0:
        # Dividing both by a number below 0 moves the sign to the top.
        shared = -shared
    return (top // shared, bottom // shared)


def plus(a, b):
    """Return a + b."""
    return ratio(a[0] * b[1] + b[0] * a[1], a[1] * b[1])


def minus(a, b):
    """Return a - b."""
    return ratio(a[0] * b[1] - b[0] * a[1], a[1] * b[1])


def times(a, b):
    """Return a times b."""
    return ratio(a[0] * b[0], a[1] * b[1])


def over(a, b):
    """Return a divided by b; b is not 0."""
    return ratio(a[0] * b[1], a[1] * b[0])


def less(a, b):
    """Return True if a < b, otherwise False."""
    return a[0] * b[1] < b[0] * a[1]


def lesser(a, b):
    """Return the lesser one of two ratios."""
    return b if less(b, a) else a


def greater(a, b):
    """Return the greater one of two ratios."""
    return b if less(a, b) else a


def total(ratios):
    """Return the sum of a list or tuple of ratios."""
    so_far = ZERO
    for part in ratios:
        so_far = plus(so_far, part)
    return so_far
