"""Counting the numbers of a form, and the chain of divisors with a given share."""

from math import gcd, lcm

from leaprules.errors import NoNumber, TooLarge
from leaprules.forms import check_between, check_from
from leaprules.periods import period

MOST_COUNTED = 12
GREATEST_PART = 10 ** 6 - 1


def count_up_to(form, limit):
    """How many numbers up to a limit are in a form."""
    check_from(limit, 0)
    return counted(weights_of(form), limit)


def nth(form, index):
    """The number with an index among all numbers of a form."""
    check_from(index, 0)
    weights = weights_of(form)
    if len(form) == 0:
        raise NoNumber("a form without divisors has no number")
    many = index + 1
    # Up to n there are about n * part / whole numbers. Each n // multiple errs by less than 1, and this counts as
    # often as its weight says. With these bounds the search is short, however great the index is.
    whole = period(form)
    part = counted(weights, whole)
    error = sum([abs(weight) for weight in weights.values()])
    low = max(0, (many - error) * whole // part)
    high = (many + error) * whole // part + 1
    while high - low > 1:
        middle = (low + high) // 2
        if counted(weights, middle) < many:
            low = middle
        else:
            high = middle
    return high


def following(form, limit):
    """The least number of a form that is greater than a limit."""
    return nth(form, count_up_to(form, limit))


def share(form):
    """The share of a form, a tuple (numerator, denominator) without a common divisor."""
    whole = period(form)
    part = counted(weights_of(form), whole)
    common = gcd(part, whole)
    return part // common, whole // common


def weights_of(form):
    """For each lcm of divisors how often its multiples are to be counted; TooLarge for too many divisors."""
    if len(form) > MOST_COUNTED:
        raise TooLarge("the form has more than 12 divisors")
    weights = {}
    for divisor in form.divisors:
        joined = {multiple: weights[multiple] for multiple in weights}
        joined[divisor] = joined.get(divisor, 0) + 1
        # What was in and is divided once more is out: it is taken away from both counts.
        for multiple, weight in weights.items():
            both = lcm(multiple, divisor)
            joined[both] = joined.get(both, 0) - 2 * weight
        weights = joined
    return weights


def counted(weights, limit):
    """How many numbers up to a limit there are by the weights of their divisors."""
    return sum([weights[multiple] * (limit // multiple) for multiple in weights])


def chain_with(numerator, denominator):
    """The divisors, each one dividing the next one, of the form with a share."""
    check_between(numerator, 0, GREATEST_PART)
    check_between(denominator, max(1, numerator), GREATEST_PART)
    # With q = b // a and r = b % a, a / b is (1 - r / b) / q: of the multiples of q, the rest of the chain takes
    # out the share r / b. As r is less than a, the next quotient is greater than q.
    chain = []
    last = 1
    while numerator > 0:
        last *= denominator // numerator
        chain.append(last)
        numerator = denominator % numerator
    return chain
