"""Stretches: tuples (low, high) of fractions, high None where there is no end."""

from ladderworth.errors import NoStretch
from ladderworth.ratios import fraction, under


def stretch(low, high):
    if high is not None and under(high, low):
        raise NoStretch("the high of a stretch is less than its low")
    return (low, high)


def lies_in(one, part):
    return not under(one, part[0]) and (part[1] is None or not under(part[1], one))


def meets(one, other):
    # No stretch is empty, so two share a fraction unless one ends ahead of the other.
    return not beneath(one, other) and not beneath(other, one)


def beneath(one, other):
    return one[1] is not None and under(one[1], other[0])


def widened(part, measure):
    low = fraction(whole_below(part[0], measure), measure)
    if part[1] is None:
        return stretch(low, None)
    return stretch(low, fraction(whole_above(part[1], measure), measure))


def whole_below(one, measure):
    return one[0] * measure // one[1]


def whole_above(one, measure):
    # Python's // goes down, so the sign is turned to go up.
    return -(-one[0] * measure // one[1])
