import unittest
from math import gcd

from leaprules.errors import InvalidDivisors, InvalidForm, InvalidNumber, TooLarge
from leaprules.forms import Form
from tests.helpers import (GREAT, NO_INTEGERS, NO_NUMBERS, SMALL, RaisingCase, great_form, is_in, objects, primes,
                           set_alone, set_common, set_or)


class Making(RaisingCase):
    def refuse(self, thing):
        self.assert_raises_exactly(InvalidDivisors, Form, thing)

    def test_ordinary_lists(self):
        for divisors in ([], [1], [4, 100, 400], [2, 3, 5, 7]):
            self.assertEqual(Form(divisors).divisors, divisors)

    def test_by_name(self):
        self.assertEqual(Form(divisors=[4, 100]).divisors, [4, 100])

    def test_number_of_divisors(self):
        for many in (0, 1, 199, 200):
            self.assertEqual(Form(list(range(1, many + 1))).divisors, list(range(1, many + 1)))
        self.refuse(list(range(1, 202)))
        self.refuse(list(range(1, 1001)))

    def test_size_of_divisors(self):
        self.assertEqual(Form([1, GREAT - 1]).divisors, [1, GREAT - 1])
        self.refuse([GREAT])
        self.refuse([1, GREAT])
        self.refuse([GREAT - 1, GREAT])
        self.refuse([10 ** 59])

    def test_divisors_below_one(self):
        for divisors in ([0], [-1], [0, 1], [-1, 1], [-4, -3], [-GREAT]):
            self.refuse(divisors)

    def test_equal_and_descending_neighbours(self):
        for divisors in ([1, 1], [4, 4], [2, 4, 4], [4, 3], [1, 3, 2], [1, 5, 2, 7], [400, 100, 4]):
            self.refuse(divisors)

    def test_other_objects(self):
        for thing in objects() + [0, 1, 4, -4, Form([]), Form([4])]:
            self.refuse(thing)

    def test_other_objects_as_one_divisor(self):
        for thing in objects() + [[], [4], Form([]), Form([4])]:
            self.refuse([thing])
            self.refuse([4, thing])
            self.refuse([thing, 4])
            self.refuse([4, thing, 100])

    def test_booleans_are_no_divisors(self):
        self.refuse([True])
        self.refuse([True, 2])
        self.refuse([False, 1])
        self.refuse([1, True])

    def test_the_list_is_copied(self):
        passed = [4, 100]
        form = Form(passed)
        passed.append(400)
        passed[0] = 3
        self.assertEqual(form.divisors, [4, 100])
        returned = form.divisors
        returned.append(400)
        returned[0] = 3
        self.assertEqual(form.divisors, [4, 100])
        self.assertIsNot(form.divisors, form.divisors)
        self.assertTrue(form(100) is False and form(4) is True)

    def test_the_argument_stays(self):
        passed = [2, 3, 7]
        Form(passed)
        self.assertEqual(passed, [2, 3, 7])
        wrong = [3, 2]
        self.refuse(wrong)
        self.assertEqual(wrong, [3, 2])


class Asking(RaisingCase):
    def test_odd_number_of_divisors(self):
        for divisors in SMALL + [[4, 100, 400], [7], [5, 10, 30]]:
            form = Form(divisors)
            for number in list(range(1, 61)) + [100, 400, 1900, 2000, 2024]:
                self.assertIs(form(number), is_in(divisors, number))

    def test_leap_years(self):
        leap = Form([4, 100, 400])
        self.assertEqual([n for n in (1900, 1904, 1999, 2000, 2100, 2400) if leap(n)], [1904, 2000, 2400])

    def test_by_name(self):
        self.assertIs(Form([4])(number=8), True)
        self.assertIs(Form([4])(number=9), False)

    def test_no_numbers(self):
        for form in (Form([]), Form([1]), Form([4, 100])):
            for number in NO_NUMBERS + NO_INTEGERS:
                self.assert_raises_exactly(InvalidNumber, form, number)
                self.assert_raises_exactly(InvalidNumber, form, number=number)

    def test_long_numbers(self):
        form = Form([3, 10 ** 19, GREAT - 1])
        for number in (10 ** 59, 10 ** 60 - 1, 3 * 10 ** 58, (GREAT - 1) * 10 ** 19, (GREAT - 1) ** 3, 10 ** 400):
            self.assertIs(form(number), is_in([3, 10 ** 19, GREAT - 1], number))
        great = great_form([10 ** 50, 10 ** 50])
        self.assertIs(great(10 ** 100), True)
        self.assertIs(great(10 ** 100 + 1), False)
        self.assertIs(great(10 ** 99), False)

    def test_two_hundred_divisors(self):
        form = Form(list(range(1, 201)))
        for number in (1, 2, 36, 199, 200, 5040, 10 ** 59):
            self.assertIs(form(number), is_in(range(1, 201), number))

    def test_length(self):
        self.assertEqual(len(Form([])), 0)
        self.assertEqual(len(Form([4, 100, 400])), 3)
        self.assertEqual(len(Form(list(range(1, 201)))), 200)

    def test_in(self):
        form = Form([1, 4, 100])
        for thing in range(-5, 120):
            self.assertIs(thing in form, thing in (1, 4, 100))
        self.assertIs(10 ** 100 in great_form([10 ** 50, 10 ** 50]), True)
        self.assertIs(10 ** 100 + 1 in great_form([10 ** 50, 10 ** 50]), False)

    def test_other_objects_are_not_in(self):
        for thing in objects() + [[], [4], Form([]), Form([4]), Form([1, 4])]:
            self.assertIs(thing in Form([1, 4]), False, thing)

    def test_equal(self):
        for one in SMALL:
            for other in SMALL:
                self.assertIs(Form(one) == Form(other), one == other)
                self.assertIs(Form(one) != Form(other), one != other)

    def test_equal_to_other_objects(self):
        for thing in objects() + [[], [4], 0, 4]:
            self.assertIs(Form([4]) == thing, False)
            self.assertIs(Form([]) == thing, False)
            self.assertIs(Form([4]) != thing, True)

    def test_equal_results(self):
        self.assertIs(Form([2]) & Form([3]) == Form([6]), True)
        self.assertIs(great_form([10 ** 30]) == great_form([10 ** 10, GREAT]), True)
        self.assertIs(great_form([10 ** 30]) == great_form([10 ** 31]), False)

    def test_form_is_called_again_after_an_error(self):
        form = Form([4, 100])
        self.assert_raises_exactly(InvalidNumber, form, 0)
        self.assertEqual(form.divisors, [4, 100])
        self.assertIs(form(4), True)


class Operators(RaisingCase):
    def assert_divisors(self, form, divisors):
        self.assertIs(form.__class__, Form)
        self.assertEqual(form.divisors, sorted(divisors))

    def test_small_tables(self):
        forms = [(divisors, Form(divisors), [is_in(divisors, n) for n in range(1, 25)]) for divisors in SMALL]
        for one, left, ones in forms:
            self.assertEqual([(~left)(n) for n in range(1, 25)], [not a for a in ones])
            for other, right, others in forms:
                pairs = list(zip(ones, others))
                self.assertEqual([(left ^ right)(n) for n in range(1, 25)], [a != b for a, b in pairs])
                self.assertEqual([(left & right)(n) for n in range(1, 25)], [a and b for a, b in pairs])
                self.assertEqual([(left | right)(n) for n in range(1, 25)], [a or b for a, b in pairs])
            self.assertEqual(left.divisors, one)

    def compare_with_sets(self, left, right):
        ones, others = left.divisors, right.divisors
        self.assert_divisors(left ^ right, set_alone(ones, others))
        self.assert_divisors(left & right, set_common(ones, others))
        self.assert_divisors(left | right, set_or(ones, others))
        self.assert_divisors(~left, set_alone(ones, [1]))
        self.assertEqual((left.divisors, right.divisors), (ones, others))

    def test_large_divisors(self):
        one = Form([10 ** 15, 6 * 10 ** 17, GREAT - 1])
        other = Form([1, 7 ** 20, 10 ** 19 + 1, GREAT - 2, GREAT - 1])
        self.compare_with_sets(one, other)
        self.compare_with_sets(other, one)
        self.compare_with_sets(one, one)

    def test_results_are_passed_on(self):
        one = Form([GREAT - 1, ]) & Form([GREAT - 3, GREAT - 2])
        self.assertTrue(all(divisor >= GREAT for divisor in one.divisors))
        self.assert_raises_exactly(InvalidDivisors, Form, one.divisors)
        other = Form([7, 10 ** 19]) & ~Form([GREAT - 11])
        self.compare_with_sets(one, other)
        self.compare_with_sets(other, one)
        more = (one | other) & ~Form([GREAT - 7])
        self.compare_with_sets(more, one)
        self.compare_with_sets(~more, other ^ Form([1]))

    def test_equal_divisors_cancel(self):
        self.assert_divisors(Form([4, 100]) ^ Form([4, 100]), [])
        self.assert_divisors(Form([4, 6]) ^ Form([4, 9]), [6, 9])
        self.assert_divisors(Form([2, 4]) & Form([4]), [])
        self.assert_divisors(Form([2, 3]) & Form([2, 3]), [2, 3])
        self.assert_divisors(Form([2]) | Form([2]), [2])
        self.assert_divisors(~Form([1, 4]), [4])
        self.assert_divisors(~Form([]), [1])

    def test_no_form_at_the_right(self):
        for left in (Form([]), Form([4, 100]), Form(list(range(1, 201))), Form(list(range(2, 202)))):
            held = left.divisors
            for thing in objects() + [0, 1, 4, [], [4], [4, 100]]:
                self.assert_raises_exactly(InvalidForm, lambda: left ^ thing)
                self.assert_raises_exactly(InvalidForm, lambda: left & thing)
                self.assert_raises_exactly(InvalidForm, lambda: left | thing)
            self.assertEqual(left.divisors, held)

    def test_alone_up_to_two_hundred(self):
        one, other = list(range(1, 101)), list(range(101, 201))
        self.assert_divisors(Form(one) ^ Form(other), range(1, 201))
        self.assert_raises_exactly(TooLarge, lambda: Form(one) ^ Form(other + [201]))
        full = Form(list(range(1, 201)))
        self.assert_divisors(full ^ full, [])
        self.assert_divisors(full ^ Form([]), range(1, 201))
        self.assert_divisors(full ^ Form([200]), range(1, 200))
        self.assert_divisors(full ^ Form([200, 201]), list(range(1, 200)) + [201])
        self.assert_raises_exactly(TooLarge, lambda: full ^ Form([201]))
        self.assert_raises_exactly(TooLarge, lambda: full ^ Form(list(range(201, 401))))

    def test_not_up_to_two_hundred(self):
        self.assert_divisors(~Form(list(range(1, 201))), range(2, 201))
        self.assert_divisors(~Form(list(range(2, 201))), range(1, 201))
        full = Form(list(range(2, 202)))
        self.assert_raises_exactly(TooLarge, lambda: ~full)
        self.assertEqual(full.divisors, list(range(2, 202)))

    def test_both_up_to_two_hundred(self):
        ten, twenty = primes(10), primes(20, 50)
        self.assert_divisors(Form(ten) & Form(twenty), [a * b for a in ten for b in twenty])
        three, many = primes(3), primes(67, 50)
        one, other = Form(three), Form(many)
        self.assert_raises_exactly(TooLarge, lambda: one & other)
        self.assertEqual((one.divisors, other.divisors), (three, many))
        full = Form(list(range(1, 201)))
        self.assert_divisors(full & full, range(1, 201))
        self.assert_divisors(full & Form([1]), range(1, 201))
        self.assert_divisors(full & Form([]), [])

    def test_or_up_to_two_hundred(self):
        odd = primes(101, 3)
        # Of 2 and n odd primes: 1 + n + n divisors; of 2, 4 and n odd primes: 2 + n + 2 * n.
        self.assertEqual(len(Form([2]) | Form(odd[:99])), 199)
        self.assert_raises_exactly(TooLarge, lambda: Form([2]) | Form(odd[:100]))
        self.assertEqual(len(Form([2, 4]) | Form(odd[:66])), 200)
        self.assert_divisors(Form([2, 4]) | Form(odd[:66]), set_or([2, 4], odd[:66]))
        self.assert_raises_exactly(TooLarge, lambda: Form([2, 4]) | Form(odd[:67]))
        self.assert_raises_exactly(TooLarge, lambda: Form(list(range(1, 201))) | Form([201]))

    def test_or_counts_only_its_result(self):
        # Even numbers alone are out of one, odd numbers alone out of the other.
        odd = primes(160, 3)
        one = ~Form([2 * prime for prime in odd[:100]])
        other = ~Form(sorted(odd[100:] + [2 * prime for prime in odd[100:]]))
        self.assert_raises_exactly(TooLarge, lambda: one ^ other)
        self.assert_raises_exactly(TooLarge, lambda: one & other)
        self.assert_divisors(one | other, [1])
        full = Form(list(range(1, 201)))
        self.assert_divisors(full | full, range(1, 201))
        self.assert_divisors(full | Form([1]), [1])

    def test_named_arguments(self):
        self.assertEqual(Form([2]).__xor__(other=Form([3])).divisors, [2, 3])
        self.assertEqual(Form([2]).__and__(other=Form([3])).divisors, [6])
        self.assertEqual(Form([2]).__or__(other=Form([3])).divisors, [2, 3, 6])
        self.assertIs(Form([2]).__eq__(other=Form([2])), True)
        self.assertIs(Form([2]).__contains__(thing=2), True)

    def test_results_are_independent(self):
        form = Form([4, 100])
        for made in (form ^ Form([]), form & Form([1]), form | Form([]), form.scaled(1), form.spread(1)):
            self.assertIsNot(made, form)
            made.divisors.append(5)
            self.assertEqual((made.divisors, form.divisors), ([4, 100], [4, 100]))

    def test_equal_calls_return_equal_results(self):
        one, other = Form([6, 10, 15]), Form([4, 9, 25])
        for made in (lambda: one ^ other, lambda: one & other, lambda: one | other, lambda: ~one):
            self.assertEqual(made(), made())


class ScaledAndSpread(RaisingCase):
    def test_scaled_by_its_definition(self):
        for divisors in SMALL + [[4, 100, 400], [5, 10, 30], [8, 12, 18, 27]]:
            form = Form(divisors)
            for number in (1, 2, 3, 4, 6, 10, 12, 100, 144):
                made = form.scaled(number)
                for n in range(1, 61):
                    self.assertIs(made(n), form(n * number))
            self.assertEqual(form.divisors, divisors)

    def test_spread_by_its_definition(self):
        for divisors in SMALL + [[4, 100, 400], [5, 10, 30]]:
            form = Form(divisors)
            for number in (1, 2, 3, 4, 6, 10):
                made = form.spread(number)
                for n in range(1, 121):
                    self.assertIs(made(n), n % number == 0 and form(n // number))
            self.assertEqual(form.divisors, divisors)

    def test_divisors(self):
        self.assertEqual(Form([4, 100, 400]).scaled(100).divisors, [4])
        self.assertEqual(Form([4, 6]).scaled(2).divisors, [2, 3])
        self.assertEqual(Form([9, 10]).scaled(10).divisors, [1, 9])
        self.assertEqual(Form([2, 4]).scaled(4).divisors, [])
        self.assertEqual(Form([]).scaled(7).divisors, [])
        self.assertEqual(Form([4, 100]).spread(7).divisors, [28, 700])
        self.assertEqual(Form([]).spread(7).divisors, [])

    def test_by_name(self):
        self.assertEqual(Form([4, 100]).scaled(number=2).divisors, [2, 50])
        self.assertEqual(Form([4, 100]).spread(number=2).divisors, [8, 200])

    def test_very_large_numbers(self):
        form = Form([3, 10 ** 19, GREAT - 1])
        for number in (10 ** 59, 10 ** 60 - 1, 3 ** 125, 10 ** 400):
            self.assertEqual(form.spread(number).divisors, [d * number for d in form.divisors])
            self.assertEqual(form.spread(number).scaled(number), form)
            expected = set()
            for divisor in form.divisors:
                expected ^= {divisor // gcd(divisor, number)}
            self.assertEqual(form.scaled(number).divisors, sorted(expected))
        self.assertIs(form.spread(10 ** 400)(3 * 10 ** 400), True)
        self.assertIs(form.spread(10 ** 400)(3 * 10 ** 399), False)

    def test_no_numbers(self):
        for form in (Form([]), Form([4, 100]), Form(list(range(1, 201)))):
            held = form.divisors
            for number in NO_NUMBERS:
                self.assert_raises_exactly(InvalidNumber, form.scaled, number)
                self.assert_raises_exactly(InvalidNumber, form.spread, number)
                self.assert_raises_exactly(InvalidNumber, form.scaled, number=number)
                self.assert_raises_exactly(InvalidNumber, form.spread, number=number)
            self.assertEqual(form.divisors, held)

    def test_two_hundred_divisors(self):
        full = Form(list(range(1, 201)))
        self.assertEqual(len(full.spread(10 ** 59)), 200)
        self.assertEqual(len(full.scaled(211)), 200)
        self.assertEqual(full.spread(10 ** 59) & Form([1]), full.spread(10 ** 59))


if __name__ == "__main__":
    unittest.main()
