"""Forms: finite sets of divisors, to which all rules come down."""

from math import gcd, lcm

from leaprules.errors import InvalidDivisors, InvalidForm, InvalidNumber, TooLarge

MOST_DIVISORS = 200
DIVISOR_LIMIT = 10 ** 20


def is_integer(thing):
    """Whether any object is an integer; a boolean is none."""
    return isinstance(thing, int) and not isinstance(thing, bool)


def is_number(thing):
    """Whether any object is an integer from 1 on."""
    return is_integer(thing) and thing >= 1


def check_from(number, least):
    """Raise InvalidNumber for anything but an integer from a least one on."""
    if not is_integer(number) or number < least:
        raise InvalidNumber("the argument is no integer, or it is below its range")


def check_between(number, least, greatest):
    """Raise InvalidNumber for anything but an integer from a least to a greatest one."""
    check_from(number, least)
    if number > greatest:
        raise InvalidNumber("the argument is above its range")


def check_number(number):
    """Raise InvalidNumber for anything but an integer from 1 on."""
    check_from(number, 1)


def is_divisor(thing):
    """Whether any object is a number that callers may pass as a divisor."""
    return is_number(thing) and thing < DIVISOR_LIMIT


def are_divisors(thing):
    """Whether any object is a list that Form takes."""
    if not isinstance(thing, list) or len(thing) > MOST_DIVISORS:
        return False
    if not all([is_divisor(divisor) for divisor in thing]):
        return False
    return all([low < high for low, high in zip(thing, thing[1:])])


def divided_oddly(number, divisors):
    """Whether an odd number of the divisors divide a number."""
    return len([divisor for divisor in divisors if number % divisor == 0]) % 2 == 1


def odd_times(numbers):
    """The numbers that stand in a list an odd number of times, ascending."""
    odd = {}
    for number in numbers:
        odd[number] = not odd.get(number, False)
    return sorted([number for number in odd if odd[number]])


def alone(ones, others):
    """The divisors for the numbers that are in one of two forms alone."""
    return odd_times(ones + others)


def common(ones, others):
    """The divisors for the numbers that are in both of two forms."""
    return odd_times([lcm(one, other) for one in ones for other in others])


def divisors_of(other):
    """The divisors of the right side of an operator."""
    if not isinstance(other, Form):
        raise InvalidForm("the right side of the operator is no form")
    return other.divisors


def form_with(divisors):
    """The form with these divisors, however great and however many they are."""
    # Form takes only what callers may pass; what forms come to may be greater.
    made = Form([])
    made._held = list(divisors)
    return made


def limited_form(divisors):
    """The form with these divisors, if they are not too many."""
    if len(divisors) > MOST_DIVISORS:
        raise TooLarge("the result has more than 200 divisors")
    return form_with(divisors)


class Form:
    """A set of divisors; a number is in it if an odd number of them divide it."""

    def __init__(self, divisors):
        if not are_divisors(divisors):
            raise InvalidDivisors("divisors are an ascending list of 0 to 200 numbers less than 10 ** 20")
        self._held = list(divisors)

    @property
    def divisors(self):
        """The divisors, ascending."""
        return list(self._held)

    def __call__(self, number):
        check_number(number)
        return divided_oddly(number, self._held)

    def __len__(self):
        return len(self._held)

    def __contains__(self, thing):
        # True is equal to 1, but no divisor.
        return is_number(thing) and thing in self._held

    def __eq__(self, other):
        return isinstance(other, Form) and self._held == other._held

    def __xor__(self, other):
        return limited_form(alone(self._held, divisors_of(other)))

    def __and__(self, other):
        return limited_form(common(self._held, divisors_of(other)))

    def __or__(self, other):
        others = divisors_of(other)
        # Only the result is counted: its two parts may have more divisors than it.
        return limited_form(alone(alone(self._held, others), common(self._held, others)))

    def __invert__(self):
        return limited_form(alone(self._held, [1]))

    def scaled(self, number):
        """The form of the numbers n for which n * number is in this form."""
        check_number(number)
        # d divides n * number if and only if d / gcd(d, number) divides n.
        return form_with(odd_times([divisor // gcd(divisor, number) for divisor in self._held]))

    def spread(self, number):
        """The form of the multiples n of number for which n / number is in this form."""
        check_number(number)
        return form_with([divisor * number for divisor in self._held])
