"""What several tests share: primes, the rules of forms and lists once more from their definitions, and objects of
every kind."""

import unittest
from functools import reduce
from itertools import combinations
from math import lcm

from leaprules.answers import HiddenForm
from leaprules.errors import TooLarge
from leaprules.forms import Form
from leaprules.lists import Exceptions, FirstMatch
from leaprules.live import FirstBook, RuleBook

SMALL = [list(chosen) for many in range(6) for chosen in combinations([1, 2, 3, 4, 6], many)]
GREAT = 10 ** 20
NO_NUMBERS = [0, -1, -4, -10 ** 20, -10 ** 59]
NO_INTEGERS = [True, False, None, "4", [4], (4,), {}]


class RaisingCase(unittest.TestCase):
    def assert_raises_exactly(self, error, call, *arguments, **named):
        with self.assertRaises(error) as caught:
            call(*arguments, **named)
        self.assertIs(caught.exception.__class__, error)
        return caught.exception


def primes(many, start=2):
    """The first primes from start on."""
    found = []
    number = start
    while len(found) < many:
        if all(number % d for d in range(2, int(number ** 0.5) + 1)):
            found.append(number)
        number += 1
    return found


def set_alone(ones, others):
    return set(ones) ^ set(others)


def set_common(ones, others):
    found = set()
    for one in ones:
        for other in others:
            found ^= {lcm(one, other)}
    return found


def set_or(ones, others):
    return reduce(set_alone, [ones, others, set_common(ones, others)], set())


def is_in(divisors, number):
    """Whether a number is in the form of these divisors, from the definition."""
    result = False
    for divisor in divisors:
        if number // divisor * divisor == number:
            result = not result
    return result


def decided(kind, entries, number):
    """Whether a number is in a list of entries of a class, from the definition."""
    deciding = [is_in for divisor, is_in in entries if number // divisor * divisor == number]
    if not deciding:
        return False
    return deciding[0 if kind is FirstMatch else -1]


def entries_divisors(kind, entries):
    """The divisors of the form of a list of entries, or None if some of its entries come to more than 200."""
    form = set()
    for divisor, is_in in (entries[::-1] if kind is FirstMatch else entries):
        form = set_or(form, [divisor]) if is_in else set_alone(form, set_common(form, [divisor]))
        if len(form) > 200:
            return None
    return sorted(form)


def random_entries(source, many, greatest=12):
    return [(source.randint(1, greatest), source.random() < 0.5) for _ in range(many)]


def great_form(factors):
    """A form whose only divisor is a product, which may be greater than Form takes."""
    made = Form([1])
    for factor in factors:
        made = made.spread(factor)
    return made


def objects():
    """Objects of every kind, none of them a list of divisors, a number or a form."""
    nested = [[[[[1]]]]]
    kept = [HiddenForm([4]), Exceptions([(4, True)]), FirstMatch([]), RuleBook(), FirstBook()]
    return kept + [[thing] for thing in kept] + [
        None, True, False, "", "4", "[4]", (), (4,), (4, 100), {}, {"4": 4}, {"a": [4]}, TooLarge("4"),
        [None], [True], [False], ["4"], [(4,)], [{}], [[4]], [[]], nested, [Form([4])], [TooLarge("4")],
    ]
