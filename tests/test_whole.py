"""What DOC.md promises over the whole program: point 2, and that its parts agree with each other."""

import random
import unittest
from fractions import Fraction
from math import lcm

from leaprules.answers import HiddenForm, find, form_by, has_divisor, wanted
from leaprules.compare import first_difference, least_outside, within
from leaprules.counts import chain_with, count_up_to, following, nth, share
from leaprules.errors import InvalidText, IsPeriod, RuleError, TooLarge
from leaprules.forms import Form
from leaprules.lists import Exceptions, FirstMatch, list_for, longest_chain, shows_bound
from leaprules.live import FirstBook, RuleBook
from leaprules.periods import broken, is_period, period, shows_broken
from leaprules.rules import form_of, text_in
from leaprules.session import session
from leaprules.texts import read_form, read_list, write_form, write_list
from tests.helpers import RaisingCase, decided, entries_divisors, great_form, objects, random_entries

LEAP = Form([4, 100, 400])
JULIAN = Form([4])
RULES = Exceptions([(4, True), (100, False), (400, True)])
# Each function of the package, with the names and values of its arguments.
CALLS = [
    (form_of, {"text": "[4+ 100-]|6"}), (text_in, {"form": LEAP}), (first_difference, {"one": LEAP, "other": JULIAN}),
    (within, {"one": LEAP, "other": JULIAN}), (least_outside, {"one": JULIAN, "other": LEAP}), (period, {"form": LEAP}),
    (is_period, {"form": LEAP, "number": 800}), (broken, {"form": LEAP, "number": 6}),
    (shows_broken, {"form": LEAP, "number": 4, "thing": 96}), (wanted, {"divisor": 100}),
    (has_divisor, {"answers": [True, False, False, True], "divisor": 100}), (form_by, {"answers": [False, True] * 8}),
    (find, {"hidden": HiddenForm([4, 6]), "limit": 20}), (count_up_to, {"form": LEAP, "limit": 2026}),
    (nth, {"form": LEAP, "index": 24}), (following, {"form": LEAP, "limit": 1896}), (share, {"form": LEAP}),
    (chain_with, {"numerator": 97, "denominator": 400}), (Form, {"divisors": [4, 100]}), (LEAP, {"number": 400}),
    (LEAP.scaled, {"number": 10}), (LEAP.spread, {"number": 10}), (Exceptions, {"entries": RULES.entries}),
    (FirstMatch, {"entries": RULES.entries}), (RULES, {"number": 100}), (RULES.form, {}), (RULES.idle, {"index": 1}),
    (RULES.turned, {}), (list_for, {"form": LEAP}), (longest_chain, {"form": LEAP}),
    (shows_bound, {"form": LEAP, "number": 2, "thing": [4, 100]}), (write_list, {"entries": RULES.entries}),
    (read_list, {"text": "4+ 100-"}), (write_form, {"form": LEAP}), (read_form, {"text": "4,100"}),
    (session, {"rows": "book\nput 4 +\nlist"}),
]


def lists_in(result):
    """All lists in what a call returned."""
    found = []
    if isinstance(result, (list, tuple)):
        found += [result] if isinstance(result, list) else []
        for part in result:
            found += lists_in(part)
    return found


class GeneralRules(RaisingCase):
    def test_arguments_by_position_and_by_name(self):
        for call, named in CALLS:
            self.assertEqual(call(*named.values()), call(**named), call)
            backwards = dict(list(named.items())[::-1])
            self.assertEqual(call(**backwards), call(**named), call)

    def test_equal_calls_return_equal_results_and_new_lists(self):
        for call, named in CALLS:
            one, other = call(**named), call(**named)
            self.assertEqual(one, other)
            self.assertIs(one.__class__, other.__class__)
            known = lists_in(list(named.values()))
            for part in lists_in(one) + lists_in(other):
                self.assertFalse(any(part is before for before in known), call)
                known.append(part)

    def test_arguments_are_not_modified(self):
        for call, named in CALLS:
            before = repr({name: worth for name, worth in named.items() if isinstance(worth, (list, str, int))})
            call(**named)
            after = repr({name: worth for name, worth in named.items() if isinstance(worth, (list, str, int))})
            self.assertEqual(before, after)
        self.assertEqual(LEAP.divisors, [4, 100, 400])
        self.assertEqual(RULES.entries, [(4, True), (100, False), (400, True)])

    def test_changing_what_was_returned_changes_nothing(self):
        for call, named in CALLS:
            before = call(**named)
            for part in lists_in(call(**named)):
                part.clear()
            self.assertEqual(call(**named), before)

    def test_every_error_is_a_rule_error(self):
        for call in (lambda: Form([0]), lambda: Exceptions([0]), lambda: form_by([0]), lambda: LEAP(0),
                     lambda: LEAP & 4, lambda: RULES + 4, lambda: list_for(Form(list(range(1, 8)))),
                     lambda: nth(Form([]), 0), lambda: RuleBook().undo(), lambda: broken(LEAP, 400),
                     lambda: form_of(""), lambda: read_list(""), lambda: read_form("")):
            with self.assertRaises(RuleError) as caught:
                call()
            self.assertIsNot(caught.exception.__class__, RuleError)
            self.assertIsInstance(caught.exception, ValueError)

    def test_any_object_beside_an_operator(self):
        book = RuleBook()
        for thing in objects():
            for kept in (LEAP, RULES, FirstMatch([(7, True)]), book):
                self.assertIs(kept == thing, False)
                self.assertIs(kept != thing, True)
            self.assertIs(thing in LEAP, False)

    def test_great_values_may_be_passed_back(self):
        form = great_form([10 ** 59 + 1] * 60) ^ great_form([10 ** 59 + 3] * 50)
        least = period(form)
        self.assertGreater(least, 10 ** 6000)
        self.assertIs(is_period(form, least), True)
        self.assertEqual(self.assert_raises_exactly(IsPeriod, broken, form, least).least, least)
        self.assertIs(shows_broken(form, 1, broken(form, 1)), True)
        self.assertEqual(nth(form, 0), form.divisors[0])
        self.assertEqual(count_up_to(form, nth(form, 0)), 1)
        self.assertEqual(form.scaled(form.divisors[0]).divisors, [1, form.divisors[1]])
        self.assertIs(shows_bound(form, 1, longest_chain(form)), True)
        self.assertIs(RULES(form.divisors[0]), decided(Exceptions, RULES.entries, form.divisors[0]))
        self.assertEqual(self.assert_raises_exactly(InvalidText, form_of, text_in(form)).place, 20)
        self.assertEqual(self.assert_raises_exactly(InvalidText, read_form, write_form(form)).place, 0)
        self.assert_raises_exactly(TooLarge, list_for, form)


class PartsAgree(RaisingCase):
    def known(self):
        """Random entries, and the divisors of their form as a list of exceptions."""
        source = random.Random(61)
        for many in list(range(10)) * 12:
            entries = random_entries(source, many)
            divisors = entries_divisors(Exceptions, entries)
            if divisors is not None:
                yield entries, divisors

    def test_forms_of_texts_lists_and_books(self):
        for entries, divisors in self.known():
            rules = Exceptions(entries)
            book, first = RuleBook(), FirstBook()
            rows = ["book"]
            for divisor, is_in in entries:
                book.put(divisor, is_in)
                rows.append(f"put {divisor} {'+' if is_in else '-'}")
            for divisor, is_in in entries[::-1]:
                first.put(divisor, is_in)
            text = write_list(entries)
            forms = [rules.form(), rules.turned().form(), book.now().form(), first.now().form(),
                     form_of("[" + ("" if text == "-" else text) + "]"), Exceptions(read_list(text)).form(),
                     read_form(write_form(rules.form())), form_of(text_in(rules.form())), book.twin().now().form()]
            if max(divisors, default=0) <= 300:
                forms.append(form_by([rules(number) for number in range(1, max(divisors, default=0) + 1)]))
            for form in forms:
                self.assertEqual(form.divisors, divisors)
            answers = session("\n".join(rows + ["list", "form"])).split("\n")
            self.assertEqual(answers[len(rows):], [text, text_in(rules.form())])
            self.assertEqual(answers[:len(rows)], ["ok"] * len(rows))

    def test_numbers(self):
        for entries, divisors in self.known():
            rules, book = Exceptions(entries), RuleBook()
            for divisor, is_in in entries:
                book.put(divisor, is_in)
            for number in range(1, 50):
                answer = decided(Exceptions, entries, number)
                self.assertIs(rules(number), answer)
                self.assertIs(rules.form()(number), answer)
                self.assertIs(book.ask(number), answer)

    def test_comparisons(self):
        before = Exceptions([])
        for entries, divisors in self.known():
            rules = Exceptions(entries)
            one, other = rules.form(), before.form()
            whole = lcm(*divisors, *other.divisors)
            differing = [number for number in range(1, min(whole, 5000) + 1) if rules(number) != before(number)]
            self.assertEqual(first_difference(one, other), differing[0] if differing else None)
            outside = [number for number in range(1, min(whole, 5000) + 1) if rules(number) and not before(number)]
            try:
                self.assertEqual(least_outside(one, other), outside[0] if outside else None)
                self.assertIs(within(one, other), not outside)
            except TooLarge:
                self.assert_raises_exactly(TooLarge, lambda: one & other)
            answer = session(f"first {text_in(one)} {text_in(other)}")
            self.assertEqual(answer, str(differing[0]) if differing else "none")
            before = rules

    def test_periods_and_counts(self):
        for entries, divisors in self.known():
            rules = Exceptions(entries)
            form, whole = rules.form(), lcm(*divisors)
            self.assertEqual(period(form), whole)
            self.assertEqual(session(f"period {text_in(form)}"), str(whole))
            for number in (1, 2, 6, 12, whole, 2 * whole):
                if is_period(form, number):
                    self.assertEqual([rules(n) for n in range(1, 40)], [rules(n + number) for n in range(1, 40)])
                else:
                    place = broken(form, number)
                    self.assertNotEqual(rules(place), rules(place + number))
            if len(divisors) <= 12 and whole <= 5000:
                inside = [number for number in range(1, whole + 1) if rules(number)]
                self.assertEqual(count_up_to(form, whole), len(inside))
                self.assertEqual(share(form), Fraction(len(inside), whole).as_integer_ratio())
                self.assertEqual(session(f"count {text_in(form)} {whole}"), str(len(inside)))
                self.assertEqual([nth(form, index) for index in range(len(inside))], inside)

    def test_chains(self):
        for entries, divisors in self.known():
            form = Exceptions(entries).form()
            if len(divisors) > 6:
                self.assert_raises_exactly(TooLarge, longest_chain, form)
                continue
            chain = longest_chain(form)
            self.assertIs(shows_bound(form, len(chain), chain), True)
            self.assertLessEqual(len(chain), len(entries))
            self.assertIs(list_for(form).form() == form, True)
            self.assertLessEqual(len(chain), len(list_for(form)))

    def test_chains_with_a_share(self):
        for denominator in range(1, 30):
            for numerator in range(denominator + 1):
                chain = chain_with(numerator, denominator)
                form = Form(chain)
                self.assertEqual(share(form), Fraction(numerator, denominator).as_integer_ratio())
                entries = [(divisor, place % 2 == 0) for place, divisor in enumerate(chain)]
                self.assertIs(Exceptions(entries).form() == form, True)
                if len(chain) <= 6:
                    self.assertEqual(longest_chain(form), chain)
                self.assertEqual([Exceptions(entries).idle(index) for index in range(len(chain))], [False] * len(chain))


if __name__ == "__main__":
    unittest.main()
