import random
import unittest
from fractions import Fraction
from math import gcd, lcm

from leaprules.counts import chain_with, count_up_to, following, nth, share
from leaprules.errors import InvalidNumber, NoNumber, TooLarge
from leaprules.forms import Form
from tests.helpers import GREAT, NO_INTEGERS, SMALL, RaisingCase, great_form, is_in, primes

NEGATIVE = [-1, -2, -100, -10 ** 59]
FORMS = SMALL + [[4, 100], [6, 10, 15], [8, 12, 18, 27], [5, 7], [1, 5, 10, 30], [9], [2, 5, 8], [1, 2, 3, 5],
                 [2, 3, 4, 6, 8, 12, 24], [1, 2, 3, 4, 5, 6, 8, 10, 12, 15, 20, 24], [60]]
TWELVE = [Form(list(range(1, 13))), Form(primes(12)), Form([2 ** k for k in range(12)]),
          Form(list(range(GREAT - 12, GREAT))), Form(primes(12, 10 ** 6)), Form([k * 10 ** 18 for k in range(5, 17)])]
THIRTEEN = [Form(list(range(1, 14))), Form(primes(13)), Form(list(range(GREAT - 13, GREAT))), Form(primes(200)),
            Form(list(range(1, 201))), Form(list(range(1, 14))).spread(10 ** 59)]
LONG = [Form([1, 10 ** 19]), Form([GREAT - 1]), Form([4, 100, 400]).spread(10 ** 59), Form([7, 10 ** 19]),
        Form([GREAT - 1]) & Form([GREAT - 3, GREAT - 2]), ~Form([10 ** 18, 3 * 10 ** 18]),
        great_form([10 ** 59 + 1] * 5) ^ great_form([10 ** 59 + 3] * 3), Form([2, 3]) | Form([GREAT - 1])]


def walked(divisors, limit):
    return [number for number in range(1, limit + 1) if is_in(divisors, number)]


class Counting(RaisingCase):
    def test_against_walking(self):
        for divisors in FORMS:
            form, least = Form(divisors), lcm(*divisors)
            numbers = walked(divisors, 3 * least + 40)
            for limit in range(2 * least + 21):
                inside = [number for number in numbers if number <= limit]
                self.assertEqual(count_up_to(form, limit), len(inside), (divisors, limit))
                if divisors:
                    self.assertEqual(following(form, limit), numbers[len(inside)], (divisors, limit))
            if divisors:
                self.assertEqual([nth(form, index) for index in range(len(numbers))], numbers)
            self.assertEqual(share(form), Fraction(len(walked(divisors, least)), least).as_integer_ratio())
            self.assertEqual(form.divisors, divisors)

    def test_random_forms(self):
        source = random.Random(14)
        for _ in range(60):
            divisors = sorted(source.sample(range(1, 40), source.randint(1, 12)))
            form, numbers = Form(divisors), walked(divisors, 2000)
            for limit in [source.randrange(1900) for _ in range(10)]:
                inside = len([number for number in numbers if number <= limit])
                self.assertEqual(count_up_to(form, limit), inside)
                self.assertEqual(following(form, limit), numbers[inside])
            for index in [source.randrange(len(numbers)) for _ in range(10)]:
                self.assertEqual(nth(form, index), numbers[index])

    def test_known_ones(self):
        leap = Form([4, 100, 400])
        self.assertEqual(count_up_to(leap, 2026), 491)
        self.assertEqual(nth(leap, 0), 4)
        self.assertEqual(nth(leap, 484), 2000)
        self.assertEqual([following(leap, limit) for limit in (0, 3, 4, 1896, 1899, 1900, 2000)],
                         [4, 4, 8, 1904, 1904, 1904, 2004])
        self.assertEqual(share(leap), (97, 400))

    def test_limit_and_index_zero(self):
        for form in [Form(divisors) for divisors in FORMS if divisors] + TWELVE + LONG:
            self.assertEqual(count_up_to(form, 0), 0)
            self.assertEqual(nth(form, 0), form.divisors[0])
            self.assertEqual(following(form, 0), form.divisors[0])

    def test_by_name(self):
        form = Form([4, 100, 400])
        self.assertEqual(count_up_to(form=form, limit=100), 24)
        self.assertEqual(nth(form=form, index=24), 104)
        self.assertEqual(following(limit=96, form=form), 104)
        self.assertEqual(share(form=form), (97, 400))

    def test_without_divisors(self):
        for limit in (0, 1, 100, 10 ** 59):
            self.assertEqual(count_up_to(Form([]), limit), 0)
            self.assert_raises_exactly(NoNumber, nth, Form([]), limit)
            self.assert_raises_exactly(NoNumber, following, Form([]), limit)
        self.assertEqual(share(Form([])), (0, 1))


class ManyDigits(RaisingCase):
    def compare(self, form, index):
        """The number with an index is in the form, and before it there are as many numbers as its index."""
        found = nth(form, index)
        self.assertIs(found.__class__, int)
        self.assertIs(form(found), True)
        self.assertEqual(count_up_to(form, found), index + 1)
        self.assertEqual(count_up_to(form, found - 1), index)
        self.assertEqual(following(form, found - 1), found)
        self.assertEqual(nth(form, index), found)
        return found

    def test_indices(self):
        for form in TWELVE + LONG:
            for index in (1, 12345, 10 ** 20 + 7, 10 ** 60 - 1):
                found = self.compare(form, index)
                more = following(form, found)
                self.assertGreater(more, found)
                self.assertEqual(more, nth(form, index + 1))

    def test_whole_periods(self):
        for form in TWELVE[:3] + LONG:
            least = lcm(*form.divisors)
            numerator, denominator = share(form)
            many = least // denominator * numerator
            for times in (1, 10 ** 30, 10 ** 59):
                self.assertEqual(count_up_to(form, times * least), times * many)
                self.assertEqual(nth(form, times * many), times * least + form.divisors[0])
                self.assertEqual(following(form, times * least), times * least + form.divisors[0])
                self.assertEqual(nth(form, times * many + 9), times * least + nth(form, 9))

    def test_limits(self):
        self.assertEqual(count_up_to(Form([1]), 10 ** 59), 10 ** 59)
        self.assertEqual(count_up_to(Form([7]), 10 ** 60 - 1), (10 ** 60 - 1) // 7)
        self.assertEqual(count_up_to(Form([1, 10 ** 19]), 10 ** 59), 10 ** 59 - 10 ** 40)
        self.assertEqual(count_up_to(Form([2, 3]), 10 ** 59), 10 ** 59 // 2 + 10 ** 59 // 3 - 2 * (10 ** 59 // 6))
        self.assertEqual(nth(Form([7]), 10 ** 59), 7 * 10 ** 59 + 7)
        self.assertEqual(following(Form([1, 10 ** 19]), 10 ** 59 - 1), 10 ** 59 + 1)
        self.assertEqual(following(Form([10 ** 19]).spread(10 ** 59), 5), 10 ** 78)

    def test_results_are_passed_back(self):
        form = great_form([10 ** 59 + 1] * 5) ^ great_form([10 ** 59 + 3] * 3)
        found = nth(form, 10 ** 59)
        again = nth(form, found)
        self.assertEqual(count_up_to(form, again), found + 1)
        self.assertEqual(following(form, again - 1), again)

    def test_share_of_long_forms(self):
        self.assertEqual(share(Form([GREAT - 1])), (1, GREAT - 1))
        self.assertEqual(share(Form([1, 10 ** 19])), (10 ** 19 - 1, 10 ** 19))
        self.assertEqual(share(Form([4, 100, 400]).spread(10 ** 59)), (97, 400 * 10 ** 59))
        for form in TWELVE + LONG:
            numerator, denominator = share(form)
            self.assertEqual(gcd(numerator, denominator), 1)
            least = lcm(*form.divisors)
            self.assertEqual(Fraction(numerator, denominator), Fraction(count_up_to(form, least), least))

    def test_share_without_a_common_divisor(self):
        self.assertEqual(share(Form([1])), (1, 1))
        self.assertEqual(share(Form([2, 4])), (1, 4))
        self.assertEqual(share(Form([2, 3])), (1, 2))
        self.assertEqual(share(Form([2, 3, 6])), (2, 3))
        self.assertEqual(share(Form([3, 6, 12])), (1, 4))
        self.assertIs(share(Form([2])).__class__, tuple)


class WrongArguments(RaisingCase):
    def test_too_many_divisors(self):
        for form in THIRTEEN:
            for call in (count_up_to, nth, following):
                for number in (0, 1, 10 ** 59):
                    self.assert_raises_exactly(TooLarge, call, form, number)
            self.assert_raises_exactly(TooLarge, share, form)
            self.assert_raises_exactly(TooLarge, share, form=form)

    def test_invalid_numbers_go_first(self):
        for form in [Form([]), Form([4, 100])] + THIRTEEN:
            held = form.divisors
            for number in NEGATIVE + NO_INTEGERS:
                for call in (count_up_to, nth, following):
                    self.assert_raises_exactly(InvalidNumber, call, form, number)
                self.assert_raises_exactly(InvalidNumber, count_up_to, form=form, limit=number)
                self.assert_raises_exactly(InvalidNumber, nth, form=form, index=number)
                self.assert_raises_exactly(InvalidNumber, following, form=form, limit=number)
            self.assertEqual(form.divisors, held)


class Chains(RaisingCase):
    def compare(self, numerator, denominator):
        chain = chain_with(numerator, denominator)
        quotients, before, worth, sign = [], 1, Fraction(0), 1
        for number in chain:
            self.assertIs(number.__class__, int)
            self.assertEqual(number % before, 0, (numerator, denominator))
            quotients.append(number // before)
            worth += Fraction(sign, number)
            before, sign = number, -sign
        # The numbers divided by an odd number of a chain, from its definition.
        self.assertEqual(worth, Fraction(numerator, denominator))
        self.assertTrue(all(low < high for low, high in zip([0] + quotients, quotients)), (numerator, denominator))
        self.assertFalse(len(quotients) > 1 and quotients[-1] == quotients[-2] + 1, (numerator, denominator))
        if chain and len(chain) <= 12 and chain[-1] < GREAT:
            self.assertEqual(share(Form(chain)), worth.as_integer_ratio())

    def test_known_ones(self):
        for denominator in (1, 2, 400, 10 ** 6 - 1):
            self.assertEqual(chain_with(0, denominator), [])
            self.assertEqual(chain_with(denominator, denominator), [1])
        self.assertEqual(chain_with(97, 400), [4, 132, 13200])
        self.assertEqual(chain_with(1, 7), [7])
        self.assertEqual(chain_with(2, 14), [7])
        self.assertEqual(chain_with(194, 800), [4, 132, 13200])
        self.assertEqual(chain_with(2, 3), [1, 3])
        self.assertEqual(chain_with(numerator=1, denominator=2), [2])
        self.assertEqual(chain_with(denominator=10 ** 6 - 1, numerator=10 ** 6 - 2), [1, 10 ** 6 - 1])

    def test_small_denominators(self):
        for denominator in range(1, 61):
            for numerator in range(denominator + 1):
                self.compare(numerator, denominator)
                self.assertEqual(chain_with(2 * numerator, 2 * denominator), chain_with(numerator, denominator))

    def test_great_denominators(self):
        source = random.Random(15)
        for denominator in list(range(10 ** 6 - 30, 10 ** 6)) + [720720, 999983, 524288]:
            for numerator in [1, 2, denominator - 1, denominator - 2, denominator // 2, denominator // 2 + 1,
                              denominator * 2 // 3] + [source.randrange(denominator) for _ in range(20)]:
                self.compare(numerator, denominator)

    def test_numbers_too_great_for_form(self):
        longest = max([chain_with(numerator, 999983) for numerator in range(1, 999983, 97)], key=len)
        self.assertGreater(longest[-1], GREAT)
        self.assertGreater(len(longest), 12)

    def test_lists_are_new(self):
        for numerator in (0, 97, 400):
            first, second = chain_with(numerator, 400), chain_with(numerator, 400)
            self.assertEqual(first, second)
            first.append(0)
            self.assertEqual(chain_with(numerator, 400), second)

    def test_wrong_numbers(self):
        wrong_numerators = NEGATIVE + [10 ** 6, 10 ** 6 + 1, 10 ** 59] + NO_INTEGERS
        wrong_denominators = [0] + wrong_numerators
        for numerator in wrong_numerators:
            for denominator in (1, 400, 10 ** 6 - 1):
                self.assert_raises_exactly(InvalidNumber, chain_with, numerator, denominator)
                self.assert_raises_exactly(InvalidNumber, chain_with, numerator=numerator, denominator=denominator)
            for denominator in wrong_denominators:
                self.assert_raises_exactly(InvalidNumber, chain_with, numerator, denominator)
        for denominator in wrong_denominators:
            for numerator in (0, 1, 97):
                self.assert_raises_exactly(InvalidNumber, chain_with, numerator, denominator)
                self.assert_raises_exactly(InvalidNumber, chain_with, numerator=numerator, denominator=denominator)

    def test_more_than_the_whole(self):
        for numerator, denominator in ((1, 0), (2, 1), (401, 400), (10 ** 6 - 1, 10 ** 6 - 2), (10 ** 6 - 1, 1)):
            self.assert_raises_exactly(InvalidNumber, chain_with, numerator, denominator)
        self.assertEqual(chain_with(10 ** 6 - 1, 10 ** 6 - 1), [1])


if __name__ == "__main__":
    unittest.main()
