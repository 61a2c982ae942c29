import random
import unittest
from math import lcm

from leaprules.compare import first_difference, least_outside, within
from leaprules.errors import TooLarge
from leaprules.forms import Form
from tests.helpers import GREAT, SMALL, RaisingCase, great_form, is_in, primes, set_alone, set_common


def least(numbers):
    return min(numbers, default=None)


class SmallForms(RaisingCase):
    def compare(self, one, other):
        """Against all numbers up to the least common multiple."""
        numbers = range(1, lcm(*one, *other) + 1)
        outside = [n for n in numbers if is_in(one, n) and not is_in(other, n)]
        differing = [n for n in numbers if is_in(one, n) != is_in(other, n)]
        left, right = Form(one), Form(other)
        self.assertEqual(first_difference(left, right), least(differing), (one, other))
        self.assertIs(within(left, right), not outside, (one, other))
        self.assertEqual(least_outside(left, right), least(outside), (one, other))
        self.assertEqual((left.divisors, right.divisors), (one, other))

    def test_all_pairs(self):
        for one in SMALL:
            for other in SMALL:
                self.compare(one, other)

    def test_random_pairs(self):
        source = random.Random(8)
        for _ in range(150):
            one, other = [sorted(source.sample([1, 2, 3, 4, 5, 6, 8, 9, 10, 12, 15, 18, 20, 24], many))
                          for many in (source.randint(0, 5), source.randint(0, 5))]
            self.compare(one, other)
            self.compare(other, one)

    def test_leap_years(self):
        julian, gregorian = Form([4]), Form([4, 100, 400])
        self.assertEqual(first_difference(julian, gregorian), 100)
        self.assertEqual(first_difference(gregorian, julian), 100)
        self.assertEqual(least_outside(julian, gregorian), 100)
        self.assertIs(least_outside(gregorian, julian), None)
        self.assertIs(within(gregorian, julian), True)
        self.assertIs(within(julian, gregorian), False)

    def test_the_same_form(self):
        for divisors in SMALL + [[4, 100, 400], [GREAT - 1]]:
            one, other = Form(divisors), Form(divisors)
            for right in (one, other):
                self.assertIs(first_difference(one, right), None)
                self.assertIs(within(one, right), True)
                self.assertIs(least_outside(one, right), None)

    def test_without_divisors_and_all_numbers(self):
        none, every, some = Form([]), Form([1]), Form([6, 10])
        self.assertEqual([first_difference(none, every), first_difference(every, none)], [1, 1])
        self.assertEqual([first_difference(none, some), first_difference(some, none)], [6, 6])
        self.assertEqual([within(none, some), within(some, none)], [True, False])
        self.assertEqual([within(some, every), within(every, some)], [True, False])
        self.assertEqual([least_outside(none, some), least_outside(some, none)], [None, 6])
        self.assertEqual([least_outside(some, every), least_outside(every, some)], [None, 1])

    def test_by_name(self):
        one, other = Form([2]), Form([4])
        self.assertEqual(first_difference(one=one, other=other), 2)
        self.assertIs(within(one=other, other=one), True)
        self.assertIs(within(other=other, one=one), False)
        self.assertEqual(least_outside(other=other, one=one), 2)


class LargeForms(RaisingCase):
    def compare(self, left, right):
        """By R1 and R2."""
        ones, others = left.divisors, right.divisors
        self.assertEqual(first_difference(left, right), least(set_alone(ones, others)))
        both = set_common(ones, others)
        if len(both) > 200:
            self.assert_raises_exactly(TooLarge, within, left, right)
            self.assert_raises_exactly(TooLarge, least_outside, left, right)
        else:
            self.assertIs(within(left, right), both == set(ones))
            outside = least(set_alone(ones, both))
            self.assertEqual(least_outside(left, right), outside)
            self.assertTrue(outside is None or left(outside) and not right(outside))
        self.assertEqual((left.divisors, right.divisors), (ones, others))

    def test_large_divisors(self):
        forms = [Form([10 ** 15, 6 * 10 ** 17, GREAT - 1]), Form([1, 7 ** 20, 10 ** 19 + 1, GREAT - 2, GREAT - 1]),
                 Form([GREAT - 1]), Form([3, 10 ** 19]), Form([])]
        for left in forms:
            for right in forms:
                self.compare(left, right)

    def test_forms_that_operators_made(self):
        one = Form([GREAT - 1]) & Form([GREAT - 3, GREAT - 2])
        other = Form([7, 10 ** 19]) & ~Form([GREAT - 11])
        forms = [one, other, one | other, one ^ other, ~one, Form([4, 100]).spread(10 ** 59), great_form([10 ** 59] * 9)]
        for left in forms:
            for right in forms:
                self.compare(left, right)
        self.assertIs(within(one, Form([GREAT - 1])), True)
        self.assertEqual(least_outside(great_form([10 ** 59] * 9), Form([10 ** 19 + 1])), 10 ** 531)

    def test_two_hundred_common_divisors_are_taken(self):
        ten, twenty = Form(primes(10)), Form(primes(20, 50))
        self.assertEqual(len(ten & twenty), 200)
        self.assertIs(within(ten, twenty), False)
        self.assertEqual(least_outside(ten, twenty), 2)
        self.assertEqual(least_outside(twenty, ten), 53)
        three, many = Form(primes(3)), Form(primes(67, 50))
        for left, right in ((three, many), (many, three)):
            self.assert_raises_exactly(TooLarge, within, left, right)
            self.assert_raises_exactly(TooLarge, least_outside, one=left, other=right)
            self.assertEqual(first_difference(left, right), 2)

    def test_only_the_common_divisors_are_counted(self):
        # Together with those of one they are 400, and what is outside has so many divisors.
        full, odd = Form(primes(200, 3)), Form([2])
        self.assertEqual(len(full & odd), 200)
        self.assertEqual(least_outside(full, odd), 3)
        self.assertEqual(least_outside(odd, full), 2)
        self.assertIs(within(full, odd), False)
        self.assertEqual(first_difference(full, Form(list(range(10 ** 5, 10 ** 5 + 200)))), 3)
        self.assertEqual(first_difference(Form(list(range(201, 401))), Form(list(range(1, 201)))), 1)

    def test_a_large_form_with_itself(self):
        for divisors in (list(range(1, 201)), primes(200), list(range(GREAT - 200, GREAT))):
            form = Form(divisors)
            self.assertIs(within(form, form), True)
            self.assertIs(least_outside(form, form), None)
            self.assertIs(first_difference(form, form), None)

    def test_too_large_exactly_as_promised(self):
        source = random.Random(200)
        kinds = {True: 0, False: 0}
        for _ in range(150):
            left, right = [Form(sorted(source.sample(range(1, source.choice([40, 80, 2000])), source.randint(1, 30))))
                           for _ in range(2)]
            self.compare(left, right)
            kinds[len(set_common(left.divisors, right.divisors)) > 200] += 1
        self.assertGreater(min(kinds.values()), 20)


if __name__ == "__main__":
    unittest.main()
