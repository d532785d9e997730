"""Sleeping in gaps: tuples of depths (rate, wake), and what they cost in a gap."""

from sparewatts.ratios import ZERO, less, lesser, minus, plus, ratio, times


def asleep(depths, length):
    """Return (cost, depth): the least cost of a gap of this length, and the first depth that has it."""
    best = None
    for depth, (rate, wake) in enumerate(depths):
        price = plus(times(ratio(rate), length), ratio(wake))
        if best is None or less(price, best[0]):
            best = (price, depth)
    return best


def next_turn(depths, depth):
    """Return (time, deeper): when the machine goes deeper from this depth, and how deep, or None."""
    rate, wake = depths[depth]
    found = None
    for deeper in range(depth + 1, len(depths)):
        lower_rate, higher_wake = depths[deeper]
        # From this time of a gap on, the deeper one costs less.
        time = ratio(higher_wake - wake, rate - lower_rate)
        # Of several at the same time the deepest costs the least behind it.
        if found is None or not less(found[0], time):
            found = (time, deeper)
    return found


def dozing(depths):
    """Return the pairs (time, depth) of a machine that does not know how long the gap is."""
    pairs = []
    turn = (ZERO, 0)
    while turn is not None:
        pairs.append(turn)
        turn = next_turn(depths, turn[1])
    return tuple(pairs)


def doze_cost(depths, length):
    """Return what a gap of this length costs a machine that does not know the length."""
    pairs = dozing(depths)
    ends = [pair[0] for pair in pairs[1:]] + [length]
    spent = ZERO
    reached = 0
    for (time, depth), end in zip(pairs, ends):
        # At the very time of a turn the machine is still in the depth before.
        if less(time, length):
            spent = plus(spent, times(ratio(depths[depth][0]), minus(lesser(end, length), time)))
            reached = depth
    return plus(spent, ratio(depths[reached][1]))
