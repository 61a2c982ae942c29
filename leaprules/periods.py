"""Periods of forms, and numbers that show that something is no period."""

from math import lcm

from leaprules.errors import IsPeriod
from leaprules.forms import check_number, form_with, is_number


def period(form):
    """The least period of a form."""
    least = 1
    for divisor in form.divisors:
        least = lcm(least, divisor)
    return least


def is_period(form, number):
    """Whether a number is a period of a form."""
    check_number(number)
    return not_dividing(form, number) == []


def broken(form, number):
    """A number n so that exactly one of n and n + number is in a form."""
    check_number(number)
    divisors = not_dividing(form, number)
    if not divisors:
        raise IsPeriod(period(form))
    # Only these matter: each of the others divides both n and n + number, or neither.
    moving = form_with(divisors)
    # The least divisor d is in moving. The walk from there soon comes to a product of gcd(d, number) and a number
    # that has no common factor with any divisor. A divisor of this product would divide gcd(d, number), but that
    # is less than d, the least one. So the product is not in moving, and the walk ends.
    place = divisors[0]
    while moving(place + number):
        place += number
    return place


def shows_broken(form, number, thing):
    """Whether any object is a number n so that exactly one of n and n + number is in a form."""
    check_number(number)
    return is_number(thing) and form(thing) != form(thing + number)


def not_dividing(form, number):
    """The divisors of a form that do not divide a number."""
    return [divisor for divisor in form.divisors if number % divisor != 0]
