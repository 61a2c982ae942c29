import random
import unittest
from itertools import combinations
from math import prod

from leaprules.answers import HiddenForm, find, form_by, has_divisor, wanted
from leaprules.errors import InvalidAnswers, InvalidDivisors, InvalidNumber, TooLarge
from leaprules.forms import Form
from tests.helpers import GREAT, NO_INTEGERS, NO_NUMBERS, SMALL, RaisingCase, is_in, objects, primes

BEYOND = [10 ** 9 + 1, 10 ** 10, GREAT, 10 ** 59]
NO_ANSWERS = [thing for thing in objects() if repr(thing) not in ("[True]", "[False]")]
NO_ANSWERS += [0, 1, Form([]), (True,), [1], [0], [True, 1], [0, False], [True, None], [[True]], ["True"],
               [True, False, "+"], {"a": True}, [True, TooLarge("4")]]


def wanted_by(factors, divisor):
    """The wanted numbers of a divisor whose primes are known."""
    return sorted(divisor // prod(chosen) for many in range(len(factors) + 1) for chosen in combinations(factors, many))


def answers_of(divisors, many):
    return [is_in(divisors, number) for number in range(1, many + 1)]


def known_forms():
    """Divisors up to 300 of very different forms, at most 200 of them."""
    source = random.Random(12)
    return SMALL + [[4, 100], [300], [1, 300], list(range(1, 201)), list(range(101, 301)), list(range(2, 301, 2)),
                    primes(62)] + [sorted(source.sample(range(1, 301), many)) for many in (1, 2, 5, 20, 100, 199, 200)]


class Wanted(RaisingCase):
    def test_all_small_divisors(self):
        small = primes(100)
        for divisor in range(1, 501):
            factors = [prime for prime in small if divisor % prime == 0]
            self.assertEqual(wanted(divisor), wanted_by(factors, divisor))

    def test_known_ones(self):
        self.assertEqual(wanted(1), [1])
        self.assertEqual(wanted(2), [1, 2])
        self.assertEqual(wanted(7), [1, 7])
        self.assertEqual(wanted(8), [4, 8])
        self.assertEqual(wanted(12), [2, 4, 6, 12])
        self.assertEqual(wanted(400), [40, 80, 200, 400])
        self.assertEqual(wanted(divisor=30), [1, 2, 3, 5, 6, 10, 15, 30])

    def test_great_ones(self):
        for prime in (999999937, 999999929, 500000003, 31607, 31627):
            self.assertEqual(wanted(prime), [1, prime])
        for divisor, factors in ((10 ** 9, [2, 5]), (2 ** 29, [2]), (3 ** 18, [3]), (31607 ** 2, [31607]),
                                 (997 ** 3, [997]), (2 * 499999993, [2, 499999993]), (31607 * 31627, [31607, 31627]),
                                 (10 ** 9 - 1, [3, 37, 333667]), (223092870, primes(9)), (892371480, primes(9))):
            found = wanted(divisor)
            self.assertEqual(found, wanted_by(factors, divisor))
            self.assertTrue(all(low < high for low, high in zip(found, found[1:])))
        self.assertEqual(len(wanted(223092870)), 512)

    def test_lists_are_new(self):
        for divisor in (1, 12, 10 ** 9):
            first, second = wanted(divisor), wanted(divisor)
            self.assertEqual(first, second)
            self.assertIsNot(first, second)
            first.append(0)
            self.assertEqual(wanted(divisor), second)

    def test_wrong_numbers(self):
        for divisor in NO_NUMBERS + BEYOND + NO_INTEGERS:
            self.assert_raises_exactly(InvalidNumber, wanted, divisor)
            self.assert_raises_exactly(InvalidNumber, wanted, divisor=divisor)


class HasDivisor(RaisingCase):
    def compare(self, form, divisor):
        answers = [form(number) for number in wanted(divisor)]
        before = list(answers)
        self.assertIs(has_divisor(answers, divisor), divisor in form, (form.divisors, divisor))
        self.assertEqual(answers, before)

    def test_known_forms(self):
        for divisors in SMALL + [[4, 100, 400], [6, 10, 15, 30], [8, 12, 18, 27], [30, 60, 210], list(range(1, 201))]:
            form = Form(divisors)
            for divisor in range(1, 451):
                self.compare(form, divisor)

    def test_parts_and_multiples_of_great_divisors(self):
        for divisors in ([1, 10 ** 9], [223092870], [30030, 223092870, 999999937], [3 ** 18, 2 ** 29],
                         [31607, 31607 ** 2, 10 ** 9, 10 ** 18], [5, 499999993, 999999986]):
            form = Form(divisors)
            for divisor in divisors:
                near = [divisor // part for part in range(1, 31) if divisor % part == 0]
                near += [divisor * factor for factor in range(1, 31)]
                for number in near:
                    if number <= 10 ** 9:
                        self.compare(form, number)

    def test_by_name(self):
        self.assertIs(has_divisor(answers=[True, False], divisor=7), True)
        self.assertIs(has_divisor(divisor=7, answers=[True, True]), False)
        self.assertIs(has_divisor([True], 1), True)
        self.assertIs(has_divisor([False], 1), False)

    def test_no_answers(self):
        for thing in NO_ANSWERS:
            for divisor in (1, 2, 7, 12):
                self.assert_raises_exactly(InvalidAnswers, has_divisor, thing, divisor)
                self.assert_raises_exactly(InvalidAnswers, has_divisor, divisor=divisor, answers=thing)

    def test_the_length(self):
        for divisor in (1, 2, 7, 8, 12, 30, 10 ** 9):
            many = len(wanted(divisor))
            self.assertIs(has_divisor([False] * many, divisor), False)
            for wrong in (0, 1, 2, 3, 4, 8, many - 1, many + 1, 1000):
                if wrong != many:
                    self.assert_raises_exactly(InvalidAnswers, has_divisor, [True] * wrong, divisor)

    def test_which_error_is_first(self):
        for divisor in NO_NUMBERS + BEYOND + NO_INTEGERS:
            for thing in NO_ANSWERS:
                self.assert_raises_exactly(InvalidAnswers, has_divisor, thing, divisor)
            for answers in ([], [True], [False, True], [True] * 4, [True] * 1000):
                self.assert_raises_exactly(InvalidNumber, has_divisor, answers, divisor)


class FormBy(RaisingCase):
    def test_known_forms(self):
        for divisors in known_forms():
            for many in {max(divisors, default=0), 300}:
                answers = answers_of(divisors, many)
                before = list(answers)
                made = form_by(answers)
                self.assertIs(made.__class__, Form)
                self.assertEqual(made.divisors, divisors)
                self.assertEqual(answers, before)
                self.assertIs(form_by(answers=answers) == made, True)

    def test_any_answers(self):
        source = random.Random(13)
        for many in list(range(40)) + [100, 200]:
            answers = [source.random() < 0.5 for _ in range(many)]
            made = form_by(answers)
            self.assertEqual([made(number) for number in range(1, many + 1)], answers)
            self.assertTrue(all(divisor <= many for divisor in made.divisors))

    def test_few_answers(self):
        self.assertEqual(form_by([]).divisors, [])
        self.assertEqual(form_by([True]).divisors, [1])
        self.assertEqual(form_by([False]).divisors, [])
        self.assertEqual(form_by([False, True, True, False]).divisors, [2, 3, 4])

    def test_how_many_answers(self):
        self.assertEqual(form_by([False] * 300).divisors, [])
        self.assertEqual(form_by([True] * 300).divisors, [1])
        for many in (301, 302, 1000):
            for answer in (True, False):
                self.assert_raises_exactly(InvalidAnswers, form_by, [answer] * many)
        # Also where more than 200 divisors would be needed.
        self.assert_raises_exactly(InvalidAnswers, form_by, answers_of(range(1, 302), 301))

    def test_too_large(self):
        for many in (199, 200, 201, 202, 250, 300):
            for divisors in (list(range(1, many + 1)), list(range(301 - many, 301))):
                answers = answers_of(divisors, 300)
                if many > 200:
                    self.assert_raises_exactly(TooLarge, form_by, answers)
                    self.assert_raises_exactly(TooLarge, form_by, answers=answers)
                else:
                    self.assertEqual(form_by(answers).divisors, divisors)

    def test_no_answers(self):
        for thing in NO_ANSWERS:
            self.assert_raises_exactly(InvalidAnswers, form_by, thing)
            self.assert_raises_exactly(InvalidAnswers, form_by, answers=thing)
        for place in (0, 1, 299):
            answers = [False] * 300
            answers[place] = 0
            self.assert_raises_exactly(InvalidAnswers, form_by, answers)


class Hidden(RaisingCase):
    def test_ask(self):
        for divisors in SMALL + [[4, 100, 400], list(range(1, 201)), [GREAT - 1]]:
            hidden = HiddenForm(divisors)
            self.assertEqual(hidden.asked, 0)
            for many, number in enumerate(list(range(1, 41)) + [10 ** 59, (GREAT - 1) * 10 ** 39], start=1):
                self.assertIs(hidden.ask(number), is_in(divisors, number))
                self.assertEqual(hidden.asked, many)

    def test_by_name(self):
        hidden = HiddenForm(divisors=[4, 100])
        self.assertIs(hidden.ask(number=4), True)
        self.assertIs(hidden.ask(number=4), True)
        self.assertEqual(hidden.asked, 2)

    def test_calls_with_an_error_are_not_counted(self):
        hidden = HiddenForm([4, 100])
        for number in NO_NUMBERS + NO_INTEGERS:
            self.assert_raises_exactly(InvalidNumber, hidden.ask, number)
            self.assert_raises_exactly(InvalidNumber, hidden.ask, number=number)
        self.assertEqual(hidden.asked, 0)
        hidden.ask(7)
        self.assert_raises_exactly(InvalidNumber, hidden.ask, 0)
        self.assertEqual(hidden.asked, 1)
        self.assertIs(hidden.ask(4), True)
        self.assertEqual(hidden.asked, 2)

    def test_wrong_divisors(self):
        for thing in objects() + [0, 4, Form([4]), [0], [-1], [4, 4], [5, 4], [True, 2], [1, True], [GREAT],
                                  list(range(1, 202))]:
            self.assert_raises_exactly(InvalidDivisors, HiddenForm, thing)
            self.assert_raises_exactly(InvalidDivisors, HiddenForm, divisors=thing)

    def test_the_list_is_copied(self):
        passed = [4, 100]
        hidden = HiddenForm(passed)
        self.assertEqual(passed, [4, 100])
        passed.append(3)
        self.assertIs(hidden.ask(3), False)

    def test_two_at_once(self):
        one, other = HiddenForm([2]), HiddenForm([3])
        self.assertEqual([one.ask(2), other.ask(2), one.ask(3), other.ask(3), one.ask(4)],
                         [True, False, False, True, True])
        self.assertEqual((one.asked, other.asked), (3, 2))
        self.assertEqual(find(one, 3).divisors, [2])
        self.assertEqual(other.asked, 2)

    def test_compared_by_identity(self):
        one, other = HiddenForm([4]), HiddenForm([4])
        self.assertTrue(one == one and not one != one)
        self.assertTrue(one != other and not one == other)
        self.assertFalse(one == Form([4]) or Form([4]) == one or one == [4])


class Find(RaisingCase):
    def test_limits(self):
        for divisors in known_forms():
            greatest = max(divisors, default=0)
            for limit in {greatest, min(greatest + 1, 300), max(greatest, 150), 300}:
                hidden = HiddenForm(divisors)
                for times in (1, 2):
                    before = hidden.asked
                    found = find(hidden, limit)
                    self.assertIs(found.__class__, Form)
                    self.assertEqual(found.divisors, divisors)
                    self.assertLessEqual(hidden.asked - before, limit)

    def test_every_limit(self):
        for limit in range(301):
            divisors = sorted({limit, limit // 2, limit // 3} - {0})
            hidden = HiddenForm(divisors)
            self.assertEqual(find(hidden, limit).divisors, divisors)
            self.assertLessEqual(hidden.asked, limit)

    def test_without_a_question(self):
        hidden = HiddenForm([])
        self.assertEqual(find(hidden, 0).divisors, [])
        self.assertEqual(hidden.asked, 0)

    def test_after_other_questions(self):
        hidden = HiddenForm([4, 100])
        hidden.ask(4)
        hidden.ask(5)
        self.assertEqual(find(limit=100, hidden=hidden).divisors, [4, 100])
        self.assertLessEqual(hidden.asked, 102)

    def test_wrong_limits(self):
        for divisors in ([], [4, 100]):
            hidden = HiddenForm(divisors)
            for limit in [-1, -100, -10 ** 59, 301, 302, 1000, 10 ** 59] + NO_INTEGERS:
                self.assert_raises_exactly(InvalidNumber, find, hidden, limit)
                self.assert_raises_exactly(InvalidNumber, find, hidden=hidden, limit=limit)
            self.assertEqual(hidden.asked, 0)
            self.assertEqual(find(hidden, 300).divisors, divisors)


if __name__ == "__main__":
    unittest.main()
