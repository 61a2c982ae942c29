import random
import re
import sys
import unittest
from itertools import product
from math import lcm

from leaprules.errors import InvalidText, TooLarge
from leaprules.forms import Form
from leaprules.rules import form_of, text_in
from tests.helpers import great_form, primes, set_or

UP_TO = 120
NUMBER = r"[1-9][0-9]{0,19}"
LIST = rf"\[(?:{NUMBER}[+-](?: {NUMBER}[+-])*)?\]"
ENDINGS = ["", "1", "]", "+]", "1+]"]


def is_text(text):
    """Whether a string is a rule text, apart from how much is open at once."""
    text = re.sub(rf"{LIST}|{NUMBER}|0", "N", text)
    before = None
    while text != before:
        before = text
        text = re.sub(r"!N|\(N\)|N[&^|]N", "N", text)
    return text == "N"


def begins_a_text(text, known={}):
    """Whether a rule text begins with a string."""
    if text not in known:
        closings = [")" * many for many in range(text.count("(") + 1)]
        known[text] = any(is_text(text + ending + closing) for ending in ENDINGS for closing in closings)
    return known[text]


def wrong_place(text):
    """The place that InvalidText has, or None for a rule text."""
    for end in range(1, len(text) + 1):
        if not begins_a_text(text[:end]):
            return end - 1
    return None if is_text(text) else len(text)


def mask(numbers):
    return sum(1 << number for number in numbers)


def list_mask(text):
    """The numbers up to UP_TO in a list of exceptions, from the definition."""
    entries = [(int(word[:-1]), word[-1] == "+") for word in text[1:-1].split()]
    inside = []
    for number in range(1, UP_TO + 1):
        deciding = [sign for divisor, sign in entries if number % divisor == 0]
        if deciding and deciding[-1]:
            inside.append(number)
    return mask(inside)


def leaf_mask(found):
    text = found.group(0)
    if text[0] == "[":
        return f"({list_mask(text)})"
    if text == "0":
        return "(0)"
    return f"({mask(range(int(text), UP_TO + 1, int(text)))})"


def numbers_in(text):
    """The numbers up to UP_TO in a rule text: Python's own signs bind in the same order."""
    told = re.sub(rf"{LIST}|{NUMBER}|0", leaf_mask, text).replace("!", "~")
    value = eval(told)
    return [number for number in range(1, UP_TO + 1) if value >> number & 1]


def random_text(source, depth):
    kind = source.choice("dddlb!(" if depth else "ddddl0")
    if kind == "d":
        return str(source.choice([1, 2, 3, 4, 5, 6, 8, 9, 10, 12]))
    if kind == "0":
        return "0"
    if kind == "l":
        words = [f"{source.randint(1, 12)}{source.choice('+-')}" for _ in range(source.randint(0, 5))]
        return f"[{' '.join(words)}]"
    if kind == "!":
        return "!" + random_text(source, depth - 1)
    if kind == "(":
        return f"({random_text(source, depth - 1)}{source.choice('&^|')}{random_text(source, depth - 1)})"
    return random_text(source, depth - 1) + source.choice("&^|") + random_text(source, depth - 1)


class RuleCase(unittest.TestCase):
    def assert_divisors(self, text, divisors):
        made = form_of(text)
        self.assertIs(made.__class__, Form)
        self.assertEqual(made.divisors, divisors, text)

    def assert_place(self, text, place):
        with self.assertRaises(InvalidText) as caught:
            form_of(text)
        self.assertIs(caught.exception.__class__, InvalidText)
        self.assertEqual(caught.exception.place, place, text)

    def assert_too_large(self, text):
        with self.assertRaises(TooLarge) as caught:
            form_of(text)
        self.assertIs(caught.exception.__class__, TooLarge)


class Meaning(RuleCase):
    def test_numbers(self):
        self.assert_divisors("0", [])
        self.assert_divisors("1", [1])
        self.assert_divisors("4", [4])
        self.assert_divisors("10", [10])
        self.assert_divisors("1234567890", [1234567890])
        self.assert_divisors("99999999999999999999", [10 ** 20 - 1])
        self.assert_divisors("10000000000000000000", [10 ** 19])

    def test_signs(self):
        self.assert_divisors("2^3", [2, 3])
        self.assert_divisors("2&3", [6])
        self.assert_divisors("2|3", [2, 3, 6])
        self.assert_divisors("!2", [1, 2])
        self.assert_divisors("!1", [])
        self.assert_divisors("!0", [1])
        self.assert_divisors("(2)", [2])
        self.assert_divisors("((2))", [2])
        self.assert_divisors("!!2", [2])
        self.assert_divisors("0|2", [2])
        self.assert_divisors("0&2", [])

    def test_strength(self):
        self.assert_divisors("2|3&5", [2, 15, 30])
        self.assert_divisors("3&5|2", [2, 15, 30])
        self.assert_divisors("(2|3)&5", [10, 15, 30])
        self.assert_divisors("2^3&5", [2, 15])
        self.assert_divisors("(2^3)&5", [10, 15])
        self.assert_divisors("2|3^5", [2, 3, 5, 6, 10])
        self.assert_divisors("3^5|2", [2, 3, 5, 6, 10])
        self.assert_divisors("(2|3)^5", [2, 3, 5, 6])
        self.assert_divisors("!2&3", [3, 6])
        self.assert_divisors("!(2&3)", [1, 6])
        self.assert_divisors("!2^3", [1, 2, 3])
        self.assert_divisors("!2|3", [1, 2, 6])
        self.assert_divisors("!(2|3)", [1, 2, 3, 6])
        self.assert_divisors("3&!2", [3, 6])
        self.assert_divisors("2|3^5&7", [2, 3, 6, 35, 70])

    def test_lists(self):
        self.assert_divisors("[]", [])
        self.assert_divisors("[4+]", [4])
        self.assert_divisors("[4-]", [])
        self.assert_divisors("[1+]", [1])
        self.assert_divisors("[1+ 1-]", [])
        self.assert_divisors("[4+ 100- 400+]", [4, 100, 400])
        self.assert_divisors("[400+ 100- 4+]", [4])
        self.assert_divisors("[99999999999999999999+]", [10 ** 20 - 1])
        self.assert_divisors("![]", [1])
        self.assert_divisors("[2+]&[3+]", [6])
        self.assert_divisors("([4+ 100-])^100", [4])

    def test_lists_of_many_entries(self):
        text = "[" + " ".join(["6+", "4-", "9+"] * 70 + ["6+"]) + "]"
        self.assertEqual([n for n in range(1, UP_TO + 1) if form_of(text)(n)], numbers_in(text))
        chain = "[" + " ".join([f"{2 ** k}{'+-'[k % 2]}" for k in range(60)]) + "]"
        self.assert_divisors(chain, [2 ** k for k in range(60)])

    def test_leap_years(self):
        leap = form_of("4&(!100|400)")
        self.assertEqual(leap.divisors, [4, 100, 400])
        self.assertEqual(leap, form_of("[4+ 100- 400+]"))

    def test_long_chains_of_operators(self):
        self.assert_divisors("^".join(["6"] * 1999), [6])
        self.assert_divisors("&".join(["2", "3"] * 900), [6])
        self.assert_divisors("|".join(["2", "3"] * 900), [2, 3, 6])

    def test_random_texts(self):
        source = random.Random(7)
        for _ in range(1500):
            text = random_text(source, 4)
            try:
                made = form_of(text)
            except TooLarge:
                continue
            self.assertEqual([n for n in range(1, UP_TO + 1) if made(n)], numbers_in(text), text)

    def test_arguments(self):
        self.assertEqual(form_of(text="4^100").divisors, [4, 100])
        self.assertIs(form_of("4|6") == form_of("4|6"), True)
        self.assertIsNot(form_of("4|6"), form_of("4|6"))


class OpenTogether(RuleCase):
    def test_forty_are_taken(self):
        self.assert_divisors("!" * 40 + "2", [2])
        self.assert_divisors("!" * 39 + "2", [1, 2])
        self.assert_divisors("(" * 40 + "2" + ")" * 40, [2])
        self.assert_divisors("!(" * 20 + "2" + ")" * 20, [2])
        self.assert_divisors("!" * 40 + "[2+]", [2])
        self.assert_divisors("!" * 40 + "0", [])

    def test_the_next_one_cannot_stand(self):
        self.assert_place("!" * 41 + "2", 40)
        self.assert_place("(" * 41 + "2" + ")" * 41, 40)
        self.assert_place("!(" * 20 + "!2" + ")" * 20, 40)
        self.assert_place("!(" * 20 + "(2)" + ")" * 20, 40)
        self.assert_place("!" * 40 + "(2)", 40)
        self.assert_place("(" * 40 + "!2" + ")" * 40, 40)
        self.assert_place("(" * 40 + "2&!3" + ")" * 40, 42)
        self.assert_place("!" * 100, 40)

    def test_what_is_closed_is_not_counted(self):
        self.assert_divisors("&".join(["!" * 40 + "2"] * 3), [2])
        self.assert_divisors("(" * 39 + "!2&!3" + ")" * 39, [1, 2, 3, 6])
        self.assert_divisors("(" * 39 + "(2)&(3)|!5" + ")" * 39, form_of("2&3|!5").divisors)
        self.assert_divisors("!(2)&" * 60 + "3", [3, 6])
        self.assert_divisors("((2)&(3))&" * 60 + "3", [6])
        self.assert_divisors("!" + "(" * 39 + "2" + ")" * 39 + "&" + "!" * 40 + "3", [3, 6])

    def test_a_not_is_open_to_the_end_of_its_operand(self):
        self.assert_divisors("!" * 20 + "(" + "!" * 19 + "2&" + "!" * 19 + "3)", form_of("!2&!3").divisors)
        self.assert_place("!" * 20 + "(" + "!" * 19 + "2&" + "!" * 20 + "3)", 61)
        self.assert_place("!" * 20 + "(2&" + "(" * 20 + "3" + ")" * 21, 42)
        self.assert_place("!" * 20 + "(2&(3)^" + "!" * 20, 46)

    def test_too_early_ends_with_forty_open(self):
        self.assert_place("!" * 40, 40)
        self.assert_place("(" * 40, 40)
        self.assert_place("(" * 40 + "2" + ")" * 39, 80)


class WrongTexts(RuleCase):
    def test_texts_that_end_too_early(self):
        for text in ("", "!", "(", "(2", "2|", "2^", "2&", "2&!", "2&(", "(2|3", "((2)", "[", "[4", "[4+", "[4+ ",
                     "[4+ 1", "[4+ 100", "[4+ 100-", "2|[", "!["):
            self.assert_place(text, len(text))

    def test_signs_at_wrong_places(self):
        cases = [(")", 0), ("|", 0), ("^", 0), ("&", 0), ("]", 0), ("+", 0), ("-", 0), (" ", 0), ("-1", 0),
                 ("2)", 1), ("2(", 1), ("2!", 1), ("2[", 1), ("2]", 1), ("2+", 1), ("2-", 1), ("2||3", 2), ("2|)", 2),
                 ("2|&3", 2), ("2&^3", 2), ("()", 1), ("(|2)", 1), ("!)", 1), ("!|2", 1), ("(2))", 3), ("(2)3", 3),
                 ("(2)(3)", 3), ("(2)!3", 3), ("(2)[]", 3), ("[]2", 2), ("[][]", 2), ("[](", 2), ("[]!", 2),
                 ("(2|)", 3), ("(2&3", 4), ("(2]", 2), ("[)", 1), ("[(2+)]", 1), ("[!2+]", 1), ("[2]", 2), ("[2|3]", 2),
                 ("[+]", 1), ("[-]", 1), ("[2+-]", 3), ("[2++]", 3), ("[2+3+]", 3), ("[2+,3+]", 3), ("[[2+]]", 1),
                 ("[2+)", 3), ("[2+|]", 3), ("[2+]]", 4), ("2^3^", 4), ("2^3^)", 4), ("0(", 1), ("0!", 1), ("!0)", 2)]
        for text, place in cases:
            self.assert_place(text, place)

    def test_blanks(self):
        for text, place in [(" 2", 0), ("2 ", 1), ("2 |3", 1), ("2| 3", 2), ("! 2", 1), ("( 2)", 1), ("(2 )", 2),
                            ("[ ]", 1), ("[ 2+]", 1), ("[2 +]", 2), ("[2+ ]", 4), ("[2+  3+]", 4), ("[2+ 3+ ]", 7),
                            ("[2+] ", 4), ("[2+] |3", 4), ("2\n", 1), ("\n2", 0), ("[2+\n3+]", 3)]:
            self.assert_place(text, place)

    def test_leading_zeros(self):
        for text, place in [("00", 1), ("04", 1), ("0100", 1), ("2|04", 3), ("(00)", 2), ("[0+]", 1), ("[04+]", 1),
                            ("[4+ 0-]", 4), ("[4+ 01-]", 4), ("!00", 2)]:
            self.assert_place(text, place)

    def test_the_next_digit(self):
        self.assert_place("9" * 21, 20)
        self.assert_place("1" + "0" * 20, 20)
        self.assert_place("1" + "0" * 40, 20)
        self.assert_place("2|" + "1" * 21, 22)
        self.assert_place("[" + "1" * 21 + "+]", 21)
        self.assert_place("[4+ " + "1" * 21 + "+]", 24)
        self.assert_place("[" + "1" * 20, 21)

    def test_signs_that_are_never_allowed(self):
        for sign in "#$'*,./:;<=>?@AZ\\_`az{}~\"\n\t":
            for before in ("", "2", "2|", "(", "(2", "!", "0", "(2)", "[", "[4", "[4+", "[4+ ", "[]", "2&[4+ 12"):
                self.assert_place(before + sign, len(before))
                self.assert_place(before + sign + "2", len(before))

    def test_the_first_wrong_character_decides(self):
        self.assert_place("2|)&&", 2)
        self.assert_place("(2]|x", 2)
        self.assert_place("[04+]|", 1)

    def test_all_short_strings(self):
        for many in range(1, 5):
            for signs in product("0 4(!&|)[+]", repeat=many):
                self.compare("".join(signs))

    def test_random_strings(self):
        source = random.Random(11)
        for _ in range(3000):
            text = random_text(source, 3)[:25]
            place = source.randrange(len(text) + 1)
            self.compare(text[:place] + source.choice("0149()!&^|[]+- x\n") + text[place:])
            self.compare(text[:place] + text[place + 1:])
            self.compare(text[:place])

    def compare(self, text):
        place = wrong_place(text)
        if place is None:
            self.assertEqual([n for n in range(1, UP_TO + 1) if form_of(text)(n)], numbers_in(text), text)
        else:
            self.assert_place(text, place)


class TooLargeTexts(RuleCase):
    def setUp(self):
        self.primes = primes(201)

    def chain(self, many, sign="^"):
        return sign.join(str(prime) for prime in self.primes[:many])

    def test_two_hundred_are_taken(self):
        self.assert_divisors(self.chain(200), self.primes[:200])
        self.assert_divisors("(" + self.chain(200) + ")&(" + self.chain(200) + ")", self.primes[:200])
        self.assert_too_large(self.chain(201))

    def test_not(self):
        self.assertEqual(len(form_of("!(" + self.chain(199) + ")")), 200)
        self.assert_too_large("!(" + self.chain(200) + ")")
        self.assert_too_large("!!(" + self.chain(200) + ")")
        self.assertEqual(len(form_of("1^" + self.chain(199))), 200)

    def test_operands(self):
        large = self.chain(201)
        for text in (f"({large})&0", f"0&({large})", f"({large})^({large})", f"1|({large})", f"!({large})&0",
                     f"({large})|1", f"{large}|1", f"1|{large}"):
            self.assert_too_large(text)
        self.assert_divisors(f"{large}&0|1", [1])

    def test_the_text_is_read_from_the_left(self):
        full = self.chain(200)
        last = self.primes[200]
        self.assert_too_large(f"{full}^{last}^2")
        self.assert_divisors(f"{full}^2^{last}", self.primes[1:])
        self.assert_divisors(f"{full}^(2^{last})", self.primes[1:])
        self.assert_too_large(f"({full})|{last}|1")
        self.assert_divisors(f"({full})|({last}|1)", [1])
        self.assert_divisors(f"1|({full})|{last}", [1])
        low, high = "2|3|5|7", "11|13|17|19"
        self.assert_too_large(f"{low}|{high}|1")
        self.assert_divisors(f"{low}|({high}|1)", [1])
        three, others = "(2^3^5)", "^".join(str(p) for p in primes(67, 50))
        self.assert_too_large(f"{three}&({others})&0")
        self.assert_divisors(f"{three}&(({others})&0)", [])
        self.assert_divisors(f"0&{three}&({others})", [])

    def test_or_counts_only_its_result(self):
        odd = primes(160, 3)
        one = "^".join(str(2 * prime) for prime in odd[:100])
        other = "^".join(f"{prime}^{2 * prime}" for prime in odd[100:])
        self.assert_divisors(f"!({one})|!({other})", [1])
        self.assert_too_large(f"!({one})^!({other})")

    def test_lists(self):
        seven = [f"{prime}+" for prime in self.primes[:7]]
        self.assertEqual(len(form_of(f"[{' '.join(seven)}]")), 127)
        eight = " ".join([f"{prime}+" for prime in self.primes[:8]])
        self.assert_too_large(f"[{eight}]")
        self.assert_too_large(f"[{eight} 1-]")
        self.assert_too_large(f"[{eight} 1+]")
        self.assert_too_large(f"0&[{eight} 1-]")
        minus = " ".join([f"{prime}-" for prime in self.primes[:8]])
        self.assert_too_large(f"[1+ {minus}]")
        self.assert_too_large(f"[1+ {minus} 1-]")
        self.assert_divisors(f"[{minus}]", [])
        self.assert_divisors(f"[{minus} 1+]", [1])

    def test_lists_up_to_two_hundred(self):
        # A list that only adds is the or of its divisors: 2 ^ n - 1 divisors for n primes, fewer for others.
        known = []
        for divisors in ([2, 3, 5, 7, 11, 13, 17, 4], [2, 3, 5, 7, 11, 13, 17, 19 * 23, 4], [6, 10, 14, 15, 21, 35] * 3,
                         [4, 6, 9, 10, 15, 25, 14, 21, 35, 49, 22, 33], list(range(30, 10, -1)), list(range(10, 30))):
            entries, form, largest = [], set(), 0
            for divisor in divisors:
                entries.append(f"{divisor}+")
                form = set_or(form, [divisor])
                largest = max(largest, len(form))
                known.append(largest)
                text = f"[{' '.join(entries)}]"
                if largest > 200:
                    self.assert_too_large(text)
                else:
                    self.assert_divisors(text, sorted(form))
        self.assertTrue(max(known) > 200 and min(known) == 1)

    def test_a_list_of_exactly_two_hundred(self):
        divisors = [15, 17, 9, 25, 22, 19, 55, 25, 14, 4]
        entries = " ".join([f"{divisor}+" for divisor in divisors])
        self.assertEqual(len(form_of(f"[{entries}]")), 199)
        # Each of the next ones is a multiple of all before it, so it changes one divisor at most.
        multiple = 2 * lcm(*divisors)
        self.assertEqual(len(form_of(f"[{entries} {multiple}-]")), 200)
        self.assertEqual(len(form_of(f"[{entries} {multiple}- {2 * multiple}-]")), 200)
        self.assert_divisors(f"[{entries} {multiple}- 1+]", [1])
        self.assert_divisors(f"[{entries} {multiple}- 1-]", [])
        self.assert_too_large(f"[{entries} {multiple}- {2 * multiple}+]")
        self.assert_too_large(f"[{entries} {multiple}- {2 * multiple}+ {4 * multiple}+ 1-]")

    def test_invalid_text_goes_first(self):
        self.assert_place(self.chain(201) + "^", len(self.chain(201)) + 1)
        self.assert_place(self.chain(201) + ")", len(self.chain(201)))
        self.assert_place("(" + self.chain(201) + ")&04", len(self.chain(201)) + 4)
        eight = " ".join([f"{prime}+" for prime in self.primes[:8]])
        self.assert_place(f"[{eight}", len(eight) + 1)


class Writing(RuleCase):
    def test_texts(self):
        self.assertEqual(text_in(Form([])), "0")
        self.assertEqual(text_in(Form([1])), "1")
        self.assertEqual(text_in(Form([4])), "4")
        self.assertEqual(text_in(Form([4, 100, 400])), "4^100^400")
        self.assertEqual(text_in(form=Form([2, 30])), "2^30")
        self.assertEqual(text_in(Form([10 ** 20 - 1])), "9" * 20)

    def test_form_of_gives_the_form_back(self):
        lists = [[], [1], [4, 100, 400], [1, 2, 3, 10 ** 20 - 1], list(range(1, 201)),
                 list(range(10 ** 20 - 200, 10 ** 20))]
        for divisors in lists:
            form = Form(divisors)
            self.assertIs(form_of(text_in(form)) == form, True)
            self.assertEqual(form.divisors, divisors)

    def test_great_divisors(self):
        form = Form([7, 10 ** 19]).spread(10 ** 59)
        self.assertEqual(text_in(form), "7" + "0" * 59 + "^1" + "0" * 78)
        self.assert_place(text_in(form), 20)
        self.assertEqual(text_in(great_form([10 ** 60])), "1" + "0" * 60)
        self.assertEqual(text_in(great_form([10 ** 60 - 1])), "9" * 60)
        self.assertEqual(text_in(great_form([10 ** 60 + 1])), "1" + "0" * 59 + "1")
        self.assertEqual(text_in(great_form([10 ** 59 + 1, 10 ** 40])), "1" + "0" * 58 + "1" + "0" * 40)

    def test_divisors_longer_than_python_writes(self):
        form = great_form([10 ** 59 + 1234567] * 100)
        self.assertEqual(text_in(great_form([10 ** 60] * 100)), "1" + "0" * 6000)
        limit = sys.get_int_max_str_digits()
        sys.set_int_max_str_digits(0)
        try:
            expected = str((10 ** 59 + 1234567) ** 100)
        finally:
            sys.set_int_max_str_digits(limit)
        self.assertEqual(text_in(form), expected)


if __name__ == "__main__":
    unittest.main()
