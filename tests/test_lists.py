import random
import unittest
from itertools import combinations
from math import lcm

from leaprules.answers import HiddenForm
from leaprules.errors import InvalidEntries, InvalidForm, InvalidNumber, TooLarge
from leaprules.forms import Form
from leaprules.lists import Exceptions, FirstMatch, list_for, longest_chain, shows_bound
from leaprules.live import RuleBook
from tests.helpers import (GREAT, NO_INTEGERS, NO_NUMBERS, SMALL, RaisingCase, decided, entries_divisors, great_form,
                           is_in, objects, primes, random_entries)

KINDS = (Exceptions, FirstMatch)
LEAP = [(4, True), (100, False), (400, True)]
HUNDRED = [(number, number % 3 > 0) for number in range(1, 101)]
# The form of these, read from the start, has exactly 200 divisors; that of the last one too has 201.
TWO_HUNDRED = [(2, True), (3, True), (5, False), (7, False), (11, True), (13, False), (17, False), (19, False)]
ONE_MORE = TWO_HUNDRED + [(2 * 9699690, True)]
EIGHT = [(prime, True) for prime in primes(8)]
# 11111111111111111111 has no common factor with 9, and 9 times it is 10 ** 20 - 1.
ONES = 11111111111111111111
NO_ENTRY = objects() + [0, 1, 4, [4, True], [(4, True)], (4, True, None), (4,), (True,), (4, True, 100, False),
                        (True, 4), (0, True), (-4, True), (GREAT, False), (10 ** 59, True), (True, False),
                        (False, True), (None, True), ("4", True), ((4,), True), (4, 1), (4, 0), (4, None), (4, "+"),
                        (4, [True]), (4, Form([4])), (Form([4]), True), {"4": True}, "4+", RuleBook()]


def read(kind, entries):
    """Entries in the opposite order for a first-match list, so that both classes read them alike."""
    return entries[::-1] if kind is FirstMatch else list(entries)


def known_lists():
    source = random.Random(21)
    lists = [[], [(1, True)], [(1, False)], [(4, True)], LEAP, LEAP[::-1], [(4, True)] * 3, [(4, True), (4, False)],
             [(4, False), (4, True)], [(2, True), (3, True)], [(2, True), (3, False)], [(6, False), (4, True)], HUNDRED]
    return lists + [random_entries(source, many) for many in list(range(1, 9)) * 12]


class Making(RaisingCase):
    def refuse(self, thing):
        for kind in KINDS:
            self.assert_raises_exactly(InvalidEntries, kind, thing)
            self.assert_raises_exactly(InvalidEntries, kind, entries=thing)

    def test_entries(self):
        for kind in KINDS:
            for entries in known_lists() + [[(GREAT - 1, False), (1, True)]]:
                made = kind(entries)
                self.assertIs(made.__class__, kind)
                self.assertEqual(made.entries, entries)
                self.assertEqual([is_in.__class__ for _, is_in in made.entries], [bool] * len(entries))
                self.assertEqual(len(made), len(entries))

    def test_by_name(self):
        self.assertEqual(Exceptions(entries=LEAP).entries, LEAP)
        self.assertEqual(FirstMatch(entries=LEAP).entries, LEAP)

    def test_first_match_is_a_subclass(self):
        self.assertTrue(issubclass(FirstMatch, Exceptions))
        self.assertIsInstance(FirstMatch([]), Exceptions)

    def test_how_many(self):
        for kind in KINDS:
            for many in (0, 1, 99, 100):
                self.assertEqual(len(kind([(4, True)] * many)), many)
        for many in (101, 102, 200, 1000):
            self.refuse([(4, True)] * many)
        self.refuse(HUNDRED + [(1, True)])

    def test_divisors(self):
        for divisor in NO_NUMBERS + [GREAT, GREAT + 1, 10 ** 59] + NO_INTEGERS:
            for is_in_list in (True, False):
                self.refuse([(divisor, is_in_list)])
                self.refuse(LEAP + [(divisor, is_in_list)])
                self.refuse([(divisor, is_in_list)] + LEAP)
        for divisor in (1, 2, GREAT - 1):
            self.assertEqual(Exceptions([(divisor, True)]).entries, [(divisor, True)])

    def test_what_is_no_entry(self):
        for thing in NO_ENTRY:
            self.refuse([thing])
            self.refuse(LEAP + [thing])
            self.refuse([thing] + LEAP)
            self.refuse([(4, True), thing, (100, False)])

    def test_what_is_no_list(self):
        for thing in objects() + [0, 4, -1, GREAT, tuple(LEAP), (4, True), ((4, True),), {"a": (4, True)},
                                  Exceptions(LEAP), FirstMatch(LEAP), Form([4]), HiddenForm([4]), "4+ 100-"]:
            self.refuse(thing)

    def test_lists_are_copied(self):
        for kind in KINDS:
            passed = list(LEAP)
            made = kind(passed)
            self.assertEqual(passed, LEAP)
            passed.append((3, True))
            passed[0] = (5, True)
            self.assertEqual(made.entries, LEAP)
            returned = made.entries
            returned.append((3, True))
            returned[0] = (5, True)
            self.assertEqual(made.entries, LEAP)
            self.assertIsNot(made.entries, made.entries)
            self.assertEqual(len(made), 3)
            self.assertIs(made(3), False)

    def test_wrong_arguments_stay(self):
        wrong = [(4, True), [100, False]]
        self.refuse(wrong)
        self.assertEqual(wrong, [(4, True), [100, False]])


class Calling(RaisingCase):
    def test_against_the_definition(self):
        for kind in KINDS:
            for entries in known_lists():
                made = kind(entries)
                for number in range(1, 61):
                    self.assertIs(made(number), decided(kind, entries, number), (kind, entries, number))

    def test_leap_years(self):
        leap, turned = Exceptions(LEAP), FirstMatch(LEAP)
        self.assertEqual([leap(year) for year in (1900, 1904, 1999, 2000)], [False, True, False, True])
        self.assertEqual([turned(year) for year in (1900, 1904, 1999, 2000)], [True, True, False, True])

    def test_great_numbers(self):
        for kind in KINDS:
            made = kind([(GREAT - 1, True), (3, False), (10 ** 19, True)])
            for number in (GREAT - 1, 10 ** 19, 3 * 10 ** 19, (GREAT - 1) * 10 ** 39, 10 ** 59, 10 ** 60 - 1,
                           10 ** 400):
                self.assertIs(made(number=number), decided(kind, made.entries, number))

    def test_no_numbers(self):
        for kind in KINDS:
            for entries in ([], LEAP):
                for number in NO_NUMBERS + NO_INTEGERS:
                    self.assert_raises_exactly(InvalidNumber, kind(entries), number)
                    self.assert_raises_exactly(InvalidNumber, kind(entries), number=number)


class Adding(RaisingCase):
    def test_both_entries(self):
        for kind in KINDS:
            for ones, others in ((LEAP, [(3, True)]), ([], LEAP), (LEAP, []), ([], []), (LEAP, LEAP),
                                 (LEAP, HUNDRED[:97])):
                one, other = kind(ones), kind(others)
                both = one + other
                self.assertIs(both.__class__, kind)
                self.assertEqual(both.entries, ones + others)
                self.assertEqual((one.entries, other.entries), (ones, others))
                self.assertTrue(both is not one and both is not other)

    def test_a_list_and_itself(self):
        for kind in KINDS:
            one = kind(HUNDRED[:50])
            self.assertEqual((one + one).entries, HUNDRED[:50] * 2)
            self.assertEqual(one.entries, HUNDRED[:50])

    def test_how_many(self):
        for kind in KINDS:
            for ones, others in ((0, 100), (1, 99), (50, 50), (100, 0)):
                self.assertEqual(len(kind(HUNDRED[:ones]) + kind(HUNDRED[:others])), 100)
            for ones, others in ((1, 100), (100, 1), (50, 51), (100, 100)):
                one, other = kind(HUNDRED[:ones]), kind(HUNDRED[:others])
                self.assert_raises_exactly(TooLarge, lambda: one + other)
                self.assertEqual((one.entries, other.entries), (HUNDRED[:ones], HUNDRED[:others]))

    def test_exactly_the_same_class(self):
        for entries in ([], LEAP, HUNDRED):
            for one, other in ((Exceptions(entries), FirstMatch(LEAP)), (FirstMatch(entries), Exceptions(LEAP))):
                self.assert_raises_exactly(InvalidForm, lambda: one + other)
                self.assertEqual((one.entries, other.entries), (entries, LEAP))

    def test_other_objects(self):
        for thing in objects() + [0, 1, [], LEAP, (4, True), Form([4]), Form([])]:
            for kind in KINDS:
                if thing.__class__ is not kind:
                    self.assert_raises_exactly(InvalidForm, lambda: kind(LEAP) + thing)
                    self.assert_raises_exactly(InvalidForm, lambda: kind(HUNDRED) + thing)
        for sign in (lambda one, other: one ^ other, lambda one, other: one & other, lambda one, other: one | other):
            for kind in KINDS:
                self.assert_raises_exactly(InvalidForm, sign, Form([4]), kind(LEAP))


class Comparing(unittest.TestCase):
    def assert_equal(self, one, other, wanted):
        self.assertIs(one == other, wanted)
        self.assertIs(one != other, not wanted)

    def test_the_same_class(self):
        lists = known_lists()[:40]
        for kind in KINDS:
            for ones in lists:
                for others in lists:
                    self.assert_equal(kind(ones), kind(others), ones == others)

    def test_the_other_class(self):
        for entries in known_lists():
            self.assert_equal(Exceptions(entries), FirstMatch(entries), False)
            self.assert_equal(FirstMatch(entries), Exceptions(entries), False)

    def test_equal_rules_of_other_entries(self):
        self.assert_equal(Exceptions([(4, True), (4, True)]), Exceptions([(4, True)]), False)
        self.assert_equal(Exceptions([(2, True), (3, True)]), Exceptions([(3, True), (2, True)]), False)

    def test_other_objects(self):
        things = [thing for thing in objects() if not isinstance(thing, Exceptions)]
        for thing in things + [0, 1, [], LEAP, tuple(LEAP), Form([]), Form([4, 100, 400])]:
            for entries in ([], [(4, True)], LEAP):
                for kind in KINDS:
                    self.assert_equal(kind(entries), thing, False)
                    self.assert_equal(thing, kind(entries), False)


class FormOfLists(RaisingCase):
    def test_number_by_number(self):
        for kind in KINDS:
            for entries in known_lists():
                divisors = entries_divisors(kind, entries)
                if divisors is None:
                    continue
                made = kind(entries)
                form = made.form()
                self.assertIs(form.__class__, Form)
                self.assertEqual(form.divisors, divisors)
                self.assertEqual(made.entries, entries)
                for number in range(1, 121):
                    self.assertIs(form(number), made(number), (kind, entries, number))

    def test_known_ones(self):
        self.assertEqual(Exceptions(LEAP).form().divisors, [4, 100, 400])
        self.assertEqual(FirstMatch(LEAP[::-1]).form().divisors, [4, 100, 400])
        self.assertEqual(FirstMatch(LEAP).form().divisors, [4])
        self.assertEqual(Exceptions([]).form().divisors, [])
        self.assertEqual(FirstMatch([(2, False), (3, True)]).form().divisors, [3, 6])
        self.assertEqual(Exceptions([(2, False), (3, True)]).form().divisors, [3])

    def test_a_chain_of_divisors(self):
        # R5: the divisors with True and False in turn are a list for the form.
        for divisors in ([], [1], [4, 100, 400], [1, 2, 4, 8, 16], [3 ** k for k in range(40)], [7, 14, 42, 84]):
            entries = [(divisor, place % 2 == 0) for place, divisor in enumerate(divisors)]
            self.assertEqual(Exceptions(entries).form().divisors, divisors)
            self.assertEqual(FirstMatch(entries[::-1]).form().divisors, divisors)

    def test_two_hundred(self):
        for kind in KINDS:
            self.assertEqual(len(kind(read(kind, TWO_HUNDRED)).form()), 200)
            self.assert_raises_exactly(TooLarge, kind(read(kind, ONE_MORE)).form)
            for last in ((9699690, False), (9699690 * 23, False)):
                self.assertEqual(len(kind(read(kind, TWO_HUNDRED + [last])).form()), 200)
            for last in ((1, True), (1, False)):
                self.assertEqual(len(kind(read(kind, TWO_HUNDRED + [last])).form()), last[1])

    def test_too_large_on_the_way(self):
        for kind in KINDS:
            for later in ([], [(1, True)], [(1, False)], [(1, False), (4, True)], [(2, True)] * 5):
                for first in (ONE_MORE, EIGHT):
                    made = kind(read(kind, first + later))
                    self.assert_raises_exactly(TooLarge, made.form)
                    self.assertEqual(made.entries, read(kind, first + later))

    def test_the_order_in_which_they_are_read(self):
        # From the other end these lists stay small all the way.
        self.assert_raises_exactly(TooLarge, Exceptions(EIGHT + [(1, True)]).form)
        self.assertEqual(FirstMatch(EIGHT + [(1, True)]).form().divisors, [1])
        self.assert_raises_exactly(TooLarge, FirstMatch([(1, True)] + EIGHT).form)
        self.assertEqual(Exceptions([(1, True)] + EIGHT).form().divisors, [1])
        self.assertEqual(Exceptions(EIGHT + [(1, True)])(7), True)

    def test_random_lists_around_two_hundred(self):
        source, many_large = random.Random(22), 0
        for _ in range(60):
            entries = [(source.choice([2, 3, 5, 7, 11, 13, 17, 19, 6, 10, 15, 4]), source.random() < 0.6)
                       for _ in range(source.randint(10, 20))]
            for kind in KINDS:
                divisors = entries_divisors(kind, entries)
                if divisors is None:
                    many_large += 1
                    self.assert_raises_exactly(TooLarge, kind(entries).form)
                else:
                    self.assertEqual(kind(entries).form().divisors, divisors)
        self.assertTrue(10 < many_large < 110)


class Idle(RaisingCase):
    def test_each_index(self):
        seen = []
        for kind in KINDS:
            for entries in known_lists():
                if len(entries) == 100:
                    continue
                made, numbers = kind(entries), range(1, lcm(*[divisor for divisor, _ in entries]) + 1)
                inside = [decided(kind, entries, number) for number in numbers]
                for index in range(len(entries)):
                    others = entries[:index] + entries[index + 1:]
                    idle = [decided(kind, others, number) for number in numbers] == inside
                    self.assertIs(made.idle(index), idle, (kind, entries, index))
                    seen.append(idle)
                self.assertEqual(made.entries, entries)
        self.assertTrue(100 < seen.count(True) < len(seen) - 100)

    def test_known_ones(self):
        self.assertEqual([Exceptions(LEAP).idle(index) for index in range(3)], [False, False, False])
        self.assertEqual([FirstMatch(LEAP).idle(index) for index in range(3)], [False, True, True])
        self.assertEqual([Exceptions([(4, True)] * 3).idle(index) for index in range(3)], [True, True, True])
        self.assertEqual([Exceptions([(4, True), (4, False)]).idle(index) for index in range(2)], [True, False])
        self.assertEqual([FirstMatch([(4, True), (4, False)]).idle(index) for index in range(2)], [False, True])
        self.assertIs(Exceptions([(4, False)]).idle(index=0), True)
        self.assertIs(Exceptions([(4, True)]).idle(index=0), False)

    def test_a_hundred_entries(self):
        for kind in KINDS:
            made = kind(read(kind, [(2 ** (place % 60), place % 2 == 0) for place in range(100)]))
            inside = [made(2 ** k) for k in range(61)]
            for index in (0, 1, 40, 50, 98, 99):
                shorter = kind(made.entries[:index] + made.entries[index + 1:])
                self.assertIs(made.idle(index), [shorter(2 ** k) for k in range(61)] == inside)

    def test_wrong_indices(self):
        for kind in KINDS:
            for entries in ([], [(4, True)], LEAP, HUNDRED, EIGHT, ONE_MORE, EIGHT[::-1]):
                for index in [-1, -2, -len(entries) - 1, -10 ** 59, len(entries), len(entries) + 1, 101, 10 ** 59]:
                    self.assert_raises_exactly(InvalidNumber, kind(entries).idle, index)
                    self.assert_raises_exactly(InvalidNumber, kind(entries).idle, index=index)
                for index in NO_INTEGERS:
                    self.assert_raises_exactly(InvalidNumber, kind(entries).idle, index)

    def assert_too_large(self, entries, place):
        for kind in KINDS:
            index = len(entries) - 1 - place if kind is FirstMatch else place
            self.assert_raises_exactly(TooLarge, kind(read(kind, entries)).idle, index)

    def test_too_large(self):
        # Only the whole list is too large, also if its last entry makes it small again.
        for place in range(8):
            self.assert_too_large(EIGHT + [(1, True)], place)
            self.assert_too_large(ONE_MORE, place)
        # Only the shorter one is, then both are.
        self.assert_too_large([(1, True)] + EIGHT, 0)
        self.assert_too_large([(1, False)] + EIGHT, 0)
        self.assert_too_large(EIGHT + [(1, False)], 8)

    def test_only_one_of_both_is_too_large(self):
        for kind in KINDS:
            whole = [(1, True)] + EIGHT
            first = len(EIGHT) if kind is FirstMatch else 0
            made = kind(read(kind, whole))
            self.assertEqual(made.form().divisors, [1])
            self.assert_raises_exactly(TooLarge, made.idle, first)
            for index in range(9):
                if index != first:
                    self.assertIs(made.idle(index), True)


class Turned(unittest.TestCase):
    def test_lists(self):
        for kind, other in (KINDS, KINDS[::-1]):
            for entries in known_lists():
                made = kind(entries)
                turned = made.turned()
                self.assertIs(turned.__class__, other)
                self.assertEqual(turned.entries, entries[::-1])
                self.assertEqual(made.entries, entries)
                self.assertIs(turned.turned() == made, True)
                self.assertEqual([turned(number) for number in range(1, 41)], [made(number) for number in range(1, 41)])
                if entries_divisors(kind, entries) is not None:
                    self.assertIs(turned.form() == made.form(), True)

    def test_too_large_forms(self):
        turned = Exceptions(EIGHT).turned()
        self.assertEqual(turned.entries, EIGHT[::-1])
        with self.assertRaises(TooLarge):
            turned.form()


def lcms(divisors):
    return sorted({lcm(*chosen) for many in range(1, len(divisors) + 1) for chosen in combinations(divisors, many)})


def up_to_six():
    """Divisors of forms of 0 to 6 divisors."""
    source = random.Random(23)
    return SMALL + [[4, 100, 400], [2, 3, 5, 7, 11, 13], [1, 2, 4, 8, 16, 32], [2, 4, 8, 3, 9, 27], [6, 10, 15, 30],
                    [GREAT - 1], [1, 10 ** 19], [2, 6, 12, 18, 36, 5]] + [
        source.sample(range(1, 40), many) for many in list(range(1, 7)) * 8]


def sevens():
    return [list(range(1, 8)), primes(7), [2 ** k for k in range(7)], list(range(GREAT - 7, GREAT)),
            list(range(1, 201))]


class ListFor(RaisingCase):
    def test_entries(self):
        for divisors in map(sorted, up_to_six()):
            form = Form(divisors)
            made = list_for(form)
            self.assertIs(made.__class__, Exceptions)
            self.assertEqual(made.entries, [(multiple, is_in(divisors, multiple)) for multiple in lcms(divisors)])
            self.assertTrue(all(is_in_list in (True, False) for _, is_in_list in made.entries))
            self.assertIs(made.form() == form, True)
            self.assertEqual(form.divisors, divisors)
            self.assertIs(list_for(form=form) == made, True)

    def test_known_ones(self):
        self.assertEqual(list_for(Form([])).entries, [])
        self.assertEqual(list_for(Form([4, 100, 400])).entries, LEAP)
        self.assertEqual(list_for(Form([4, 6])).entries, [(4, True), (6, True), (12, False)])
        self.assertEqual(len(list_for(Form([2, 3, 5, 7, 11, 13]))), 63)

    def test_too_many_divisors(self):
        for divisors in sevens():
            self.assert_raises_exactly(TooLarge, list_for, Form(divisors))
            self.assert_raises_exactly(TooLarge, list_for, form=Form(divisors))

    def test_great_lcms(self):
        for divisors in ([9, ONES], [GREAT - 1], [1, 9, 11, ONES], [2 ** 20, 5 ** 19], [2 ** 19, 5 ** 20],
                         [10 ** 18, 10 ** 19, 2 * 10 ** 19, 4 * 10 ** 19, 8 * 10 ** 19]):
            form = Form(divisors)
            self.assertEqual([multiple for multiple, _ in list_for(form).entries], lcms(divisors))
        for divisors in ([2 ** 20, 5 ** 20], [2 ** 20, 10 ** 10, 5 ** 20], [2, 10 ** 19, 3 * 10 ** 19 + 1],
                         [7, 9, ONES], [GREAT - 2, GREAT - 1], [10 ** 7 - 1, 10 ** 7, 10 ** 7 + 1],
                         [5, 13, 8 * 10 ** 18]):
            self.assertGreaterEqual(lcm(*divisors), GREAT)
            self.assert_raises_exactly(TooLarge, list_for, Form(divisors))

    def test_only_the_lcm_of_all_is_too_great(self):
        divisors = [10 ** 8 - 1, 10 ** 8, 10 ** 8 + 1]
        self.assertTrue(all(lcm(one, other) < GREAT for one, other in combinations(divisors, 2)))
        self.assert_raises_exactly(TooLarge, list_for, Form(divisors))

    def test_great_divisors(self):
        for form in (great_form([10 ** 10, 10 ** 10]), Form([1, 3]).spread(10 ** 20), great_form([10 ** 59] * 100),
                     Form([GREAT - 2]) & Form([GREAT - 1])):
            self.assert_raises_exactly(TooLarge, list_for, form)
        self.assertEqual(list_for(great_form([10 ** 10, 10 ** 10 - 1])).entries, [(10 ** 20 - 10 ** 10, True)])


def chains_of(divisors):
    """All lists as in R5 among the lcms of divisors."""
    found, numbers = [[]], lcms(divisors)
    ends = [[number] for number in numbers if is_in(divisors, number)]
    while ends:
        found += ends
        ends = [chain + [number] for chain in ends for number in numbers
                if number % chain[-1] == 0 and is_in(divisors, number) == (len(chain) % 2 == 0)]
    return found


class LongestChain(RaisingCase):
    def test_against_all_chains(self):
        several = 0
        for divisors in map(sorted, up_to_six()):
            chains = chains_of(divisors)
            longest = max(map(len, chains))
            best = [chain for chain in chains if len(chain) == longest]
            several += len(best) > 1
            self.assertEqual(longest_chain(Form(divisors)), min(best), divisors)
            self.assertEqual(longest_chain(form=Form(divisors)), min(best))
        self.assertGreater(several, 20)

    def test_known_ones(self):
        self.assertEqual(longest_chain(Form([])), [])
        self.assertEqual(longest_chain(Form([7])), [7])
        self.assertEqual(longest_chain(Form([2, 3])), [2, 6])
        self.assertEqual(longest_chain(Form([3, 4, 5])), [3, 12, 60])
        self.assertEqual(longest_chain(Form([4, 6, 9])), [4, 12, 36])
        self.assertEqual(longest_chain(Form([2, 5, 30])), [2, 10, 30])
        self.assertEqual(longest_chain(Form([2, 3, 5, 7, 11, 13])), [2, 6, 30, 210, 2310, 30030])

    def test_divisors_that_are_a_chain(self):
        for divisors in ([1], [4, 100, 400], [1, 2, 4, 8, 16, 32], [GREAT - 1], [3, 6, 12, 60, 420]):
            self.assertEqual(longest_chain(Form(divisors)), divisors)
            self.assertEqual(len(list_for(Form(divisors))), len(divisors))

    def test_great_lcms(self):
        self.assertEqual(longest_chain(Form([GREAT - 2, GREAT - 1])), [GREAT - 2, (GREAT - 2) * (GREAT - 1)])
        self.assertEqual(longest_chain(Form([2, 3]).spread(10 ** 59)), [2 * 10 ** 59, 6 * 10 ** 59])
        self.assertEqual(longest_chain(great_form([10 ** 59] * 100)), [10 ** 5900])

    def test_too_many_divisors(self):
        for divisors in sevens():
            self.assert_raises_exactly(TooLarge, longest_chain, Form(divisors))
        self.assertEqual(len(longest_chain(Form(primes(6)))), 6)

    def test_lists_are_new(self):
        for divisors in ([], [4, 100], [2, 3, 5]):
            form = Form(divisors)
            first = longest_chain(form)
            second = longest_chain(form)
            self.assertEqual(first, second)
            self.assertIsNot(first, second)
            first.append(0)
            self.assertEqual(longest_chain(form), second)
            self.assertEqual(form.divisors, divisors)

    def test_no_shorter_list(self):
        # R5, for both classes and lists of any entries.
        source = random.Random(24)
        for _ in range(300):
            entries = random_entries(source, source.randint(0, 5), 9)
            for kind in KINDS:
                form = kind(entries).form()
                if len(form) <= 6:
                    self.assertLessEqual(len(longest_chain(form)), len(entries))
                    self.assertIs(list_for(form).form() == form, True)


class ShowsBound(RaisingCase):
    def setUp(self):
        self.leap = Form([4, 100, 400])

    def test_lists_as_in_r5(self):
        for thing in ([4], [4, 100], [4, 100, 400], [8, 200, 2000], [400], [12, 300, 1200], [12, 300],
                      [4, 100 * 3, 400 * 9]):
            for number in range(-3, 8):
                self.assertIs(shows_bound(self.leap, number, thing), number <= len(thing), (number, thing))
            self.assertIs(shows_bound(form=self.leap, number=len(thing), thing=thing), True)
            self.assertIs(shows_bound(self.leap, 10 ** 59, thing), False)
            self.assertIs(shows_bound(self.leap, -10 ** 59, thing), True)

    def test_the_empty_list(self):
        for form in (Form([]), self.leap, Form([1])):
            for number in (-10 ** 59, -1, 0, 1, 2, 10 ** 59):
                self.assertIs(shows_bound(form, number, []), number <= 0)

    def test_wrong_lists(self):
        for thing in ([1], [100], [100, 400], [2, 100], [4, 8], [4, 400], [4, 100, 200], [4, 100, 400, 800], [4, 4],
                      [100, 4], [400, 100, 4], [4, 100, 402], [4, 150], [8, 100], [12, 100, 400], [4, 100, 404],
                      [0], [-4], [4, 0], [4, -100], [-4, 100], [0, 0], [4, 100, 0], [-4, -100, -400]):
            for number in (-1, 0, 1, len(thing), 5):
                self.assertIs(shows_bound(self.leap, number, thing), False, thing)

    def test_any_object(self):
        things = objects() + [0, 1, 4, -1, (4, 100), (4, 100, 400), {"a": 4}, "4,100", self.leap, Exceptions(LEAP)]
        for form in (Form([]), Form([1]), Form([4]), self.leap):
            for number in (-1, 0, 1, 3):
                for thing in things:
                    self.assertIs(shows_bound(form, number, thing), False, (number, thing))
                    self.assertIs(shows_bound(form, number, [thing, 100]), shows_two(form, number, thing, 100))

    def test_booleans_are_no_numbers(self):
        for thing in ([True], [True, 2], [1, True], [1, False], [False]):
            self.assertIs(shows_bound(Form([1, 2]), 0, thing), False)
        self.assertIs(shows_bound(Form([1, 2]), 2, [1, 2]), True)

    def test_other_objects_in_the_list(self):
        for thing in objects():
            for place in range(4):
                mixed = [4, 100, 400]
                mixed.insert(place, thing)
                self.assertIs(shows_bound(self.leap, 0, mixed), False)

    def test_against_the_definition(self):
        source = random.Random(25)
        answers = []
        for _ in range(3000):
            divisors = sorted(source.sample([1, 2, 3, 4, 6, 8, 12], source.randint(0, 4)))
            thing, number = [], source.choice([1, 1, 2, 3, 4])
            for _ in range(source.randint(0, 4)):
                thing.append(number)
                number *= source.choice([1, 2, 2, 3])
            if source.random() < 0.2:
                source.shuffle(thing)
            least = source.randint(-1, 5)
            wanted = len(thing) >= least
            wanted = wanted and all(later % number == 0 for number, later in zip(thing, thing[1:]))
            wanted = wanted and [is_in(divisors, number) for number in thing] == ([True, False] * 4)[:len(thing)]
            answers.append(wanted)
            self.assertIs(shows_bound(Form(divisors), least, thing), wanted, (divisors, least, thing))
        self.assertTrue(300 < sum(answers) < 2700)

    def test_long_lists(self):
        form = Form([2 ** k for k in range(60)])
        powers = [2 ** k for k in range(60)]
        self.assertIs(shows_bound(form, 60, powers), True)
        self.assertIs(shows_bound(form, 61, powers), False)
        self.assertIs(shows_bound(form, 1, powers * 10), False)
        self.assertIs(shows_bound(Form([1]), 1, [1] * 1000), False)
        self.assertIs(shows_bound(Form([]), 1, [1]), False)

    def test_longest_chains_show_it(self):
        for divisors in map(sorted, up_to_six()):
            form = Form(divisors)
            chain = longest_chain(form)
            self.assertIs(shows_bound(form, len(chain), chain), True)
            self.assertIs(shows_bound(form, len(chain) + 1, chain), False)
            self.assertEqual(chain, longest_chain(form))
        great = great_form([10 ** 59] * 100)
        self.assertIs(shows_bound(great, 1, longest_chain(great)), True)


def shows_two(form, number, thing, later):
    """Whether [thing, later] shows a bound, for a thing that may be no number."""
    if thing.__class__ is not int or thing < 1 or later % thing:
        return False
    return number <= 2 and form(thing) and not form(later)


if __name__ == "__main__":
    unittest.main()
