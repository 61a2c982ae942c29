import random
import unittest
from math import gcd, lcm

from leaprules.errors import InvalidNumber, IsPeriod
from leaprules.forms import Form
from leaprules.periods import broken, is_period, period, shows_broken
from tests.helpers import GREAT, NO_INTEGERS, NO_NUMBERS, SMALL, RaisingCase, great_form, is_in, objects, primes

FORMS = SMALL + [[4, 100], [6, 10, 15], [8, 12, 18, 27], [5, 7], [1, 5, 10, 30], [9], [2, 5, 8]]


def squarefree(many):
    """The first numbers greater than 1 that no square divides: a form with all numbers up to the last one."""
    found = []
    number = 1
    while len(found) < many:
        number += 1
        if all(number % (d * d) for d in range(2, number)):
            found.append(number)
    return found


def large_forms():
    source = random.Random(9)
    return [Form([1, 10 ** 19]), Form([GREAT - 3, GREAT - 1]), Form([6 * 10 ** 18, 10 ** 19, 15 * 10 ** 18]),
            Form(list(range(1, 201))), Form(primes(200)), Form(squarefree(200)), Form([2 ** k for k in range(60)]),
            Form(sorted(source.randrange(1, GREAT) for _ in range(200))), Form(list(range(GREAT - 200, GREAT))),
            Form([GREAT - 1]) & Form([GREAT - 3, GREAT - 2]), ~Form([4, 100]).spread(10 ** 59),
            great_form([10 ** 59 + 1] * 40) ^ great_form([10 ** 59 + 3] * 30)]


class Periods(RaisingCase):
    def test_tables(self):
        for divisors in FORMS:
            form, known = Form(divisors), lcm(*divisors)
            table = [is_in(divisors, n) for n in range(1, 5 * known + 1)]
            periods = [p for p in range(1, 3 * known + 1) if table[p:p + known] == table[:known]]
            self.assertEqual(period(form), periods[0])
            self.assertEqual([p for p in range(1, 3 * known + 1) if is_period(form, p)], periods)
            self.assertEqual(form.divisors, divisors)

    def test_known_ones(self):
        self.assertEqual(period(Form([])), 1)
        self.assertEqual(period(Form([1])), 1)
        self.assertEqual(period(Form([4, 100, 400])), 400)
        self.assertEqual(period(form=Form([6, 10, 15])), 30)
        self.assertIs(is_period(form=Form([6, 10, 15]), number=60), True)
        self.assertIs(is_period(number=15, form=Form([6, 10, 15])), False)
        self.assertIs(is_period(Form([]), 1), True)

    def test_large_ones(self):
        for form in large_forms():
            least = lcm(*form.divisors)
            self.assertEqual(period(form), least)
            for number in (least, 2 * least, 7 * least, least ** 2):
                self.assertIs(is_period(form, number), True)
            for number in (least + 1, least - 1, 2 * least + 1, least // form.divisors[-1] * (form.divisors[-1] - 1)):
                self.assertIs(is_period(form, number), number % least == 0)

    def test_thousands_of_digits(self):
        form = Form(list(range(GREAT - 200, GREAT)))
        self.assertGreater(period(form), 10 ** 3000)
        self.assertIs(is_period(form, period(form)), True)
        self.assertIs(is_period(form, period(form) // 2), False)
        self.assertEqual(period(great_form([10 ** 59] * 200)), 10 ** 11800)

    def test_wrong_numbers(self):
        for form in (Form([]), Form([4, 100])):
            for number in NO_NUMBERS + NO_INTEGERS:
                for call in (is_period, broken):
                    self.assert_raises_exactly(InvalidNumber, call, form, number)
                    self.assert_raises_exactly(InvalidNumber, call, form=form, number=number)
                for thing in (1, 0, True, None, []):
                    self.assert_raises_exactly(InvalidNumber, shows_broken, form, number, thing)


class Broken(RaisingCase):
    def assert_broken(self, form, number):
        found = broken(form, number)
        self.assertIs(found.__class__, int)
        self.assertGreaterEqual(found, 1)
        divisors = form.divisors
        self.assertNotEqual(is_in(divisors, found), is_in(divisors, found + number))
        self.assertIs(shows_broken(form, number, found), True)
        self.assertEqual(broken(form=Form(divisors) if divisors[-1] < GREAT else form, number=number), found)
        self.assertEqual(form.divisors, divisors)

    def assert_period(self, form, number, least):
        caught = self.assert_raises_exactly(IsPeriod, broken, form, number)
        self.assertEqual(caught.least, least)

    def test_small_forms(self):
        for divisors in FORMS:
            form, least = Form(divisors), lcm(*divisors)
            for number in range(1, 3 * least + 1):
                if number % least == 0:
                    self.assert_period(form, number, least)
                else:
                    self.assert_broken(form, number)

    def test_least_period_for_every_period(self):
        for form in large_forms():
            least = lcm(*form.divisors)
            for number in (least, 2 * least, 60 * least, least ** 2, 10 ** 59 * least):
                self.assert_period(form, number, least)
        self.assert_period(Form([]), 10 ** 59, 1)
        self.assert_period(Form([1]), 1, 1)

    def test_large_forms(self):
        source = random.Random(10)
        for form in large_forms():
            least = lcm(*form.divisors)
            numbers = [1, 2, 3, 10 ** 19, 10 ** 59, least - 1, least + 1]
            numbers += [least // gcd(least, part) for part in range(2, 20)]
            numbers += [source.choice(form.divisors) for _ in range(10)]
            numbers += [least // source.choice(form.divisors) for _ in range(10)]
            numbers += [source.randrange(1, least) for _ in range(5)]
            for number in numbers:
                if number % least:
                    self.assert_broken(form, number)

    def test_each_divisor_of_the_period(self):
        for divisors in ([4, 100, 400], [2, 3, 5, 7, 11], [12, 18, 30, 45], squarefree(30)):
            least = lcm(*divisors)
            form = Form(divisors)
            for part in [part for part in range(1, 3000) if least % part == 0]:
                if part < least:
                    self.assert_broken(form, part)
                if part > 1:
                    self.assert_broken(form, least // part)

    def test_results_are_passed_back(self):
        form = great_form([10 ** 59 + 1] * 40) ^ great_form([10 ** 59 + 3] * 30)
        for number in (1, 10 ** 59 + 1, lcm(*form.divisors) // (10 ** 59 + 1)):
            found = broken(form, number)
            self.assertGreater(found, 10 ** 1700)
            again = broken(form, found)
            self.assertIs(shows_broken(form, found, again), True)
            self.assertIs(form(found) != form(found + number), True)
            self.assertIs(is_period(form, found), False)


class ShowsBroken(RaisingCase):
    def test_tables(self):
        for divisors in FORMS:
            form = Form(divisors)
            for number in range(1, 31):
                for thing in range(1, 61):
                    shown = is_in(divisors, thing) != is_in(divisors, thing + number)
                    self.assertIs(shows_broken(form, number, thing), shown)

    def test_other_objects(self):
        things = objects() + [0, -1, -2, -3, -4, -10 ** 59, [], [4], Form([]), Form([4]), IsPeriod(4)]
        for form in (Form([]), Form([2]), Form([4, 100]), Form([1, 3])):
            for number in (1, 2, 3, 4):
                for thing in things:
                    self.assertIs(shows_broken(form, number, thing), False, thing)
        self.assertIs(shows_broken(Form([2]), 1, 1), True)
        self.assertIs(shows_broken(form=Form([2]), number=1, thing=True), False)

    def test_nothing_shows_it_for_a_period(self):
        for form in (Form([]), Form([1]), Form([4, 100]), Form([6, 10, 15])):
            for number in (period(form), 2 * period(form), 10 ** 58 * period(form)):
                for thing in list(range(1, 410)) + [10 ** 59, True, "4", None]:
                    self.assertIs(shows_broken(form, number, thing), False)

    def test_long_numbers(self):
        form = Form([10 ** 19]).spread(10 ** 59)
        self.assertIs(shows_broken(form, 1, 10 ** 78), True)
        self.assertIs(shows_broken(form, 10 ** 78 - 1, 1), True)
        self.assertIs(shows_broken(form, 10 ** 78, 10 ** 78), False)
        self.assertIs(shows_broken(form, 10 ** 59, 10 ** 59), False)


if __name__ == "__main__":
    unittest.main()
