"""Comparing forms: where two of them differ, and whether one is within the other."""

from leaprules.forms import alone


def first_difference(one, other):
    """The least number at which two forms differ, or None."""
    # Not from one ^ other: that form may be too large, but its least divisor is still known.
    differing = alone(one.divisors, other.divisors)
    if not differing:
        return None
    return differing[0]


def within(one, other):
    """Whether all numbers of one form are in another one."""
    return least_outside(one, other) is None


def least_outside(one, other):
    """The least number that is in one form and not in the other, or None."""
    # A number of one is not in other if and only if it is not in both.
    return first_difference(one, one & other)
