import random
import re
import unittest
from itertools import product

from leaprules.errors import InvalidEntries, InvalidText
from leaprules.forms import Form
from leaprules.lists import Exceptions
from leaprules.texts import read_form, read_list, write_form, write_list
from tests.helpers import GREAT, RaisingCase, great_form, objects, primes, random_entries

NUMBER = "[1-9][0-9]{0,19}"
LISTS = [[], [(1, True)], [(1, False)], [(4, True), (100, False), (400, True)], [(4, True), (4, True), (4, False)],
         [(400, True), (100, False), (4, True)], [(GREAT - 1, True), (1, False)], [(10 ** 19, False)] * 100,
         [(number, number % 2 == 0) for number in range(1, 101)]]
FORMS = [[], [1], [4, 100, 400], [1, 2, 3], [9, 10], [GREAT - 1], [1, 10 ** 19, GREAT - 1], list(range(1, 201)),
         list(range(GREAT - 200, GREAT)), primes(200)]
# What cannot stand anywhere, in a list of entries or in a form.
WRONG_NUMBERS = ["", "0", "00", "04", "0100", "01", str(GREAT), str(GREAT + 1), "9" * 21, "0" + "9" * 19,
                 "1" + "0" * 59, "a", "4a", "a4", "1_0", "1.5", "4e2", "0x4", "*", "[4", "4]", "\n", "4\n", "\n4",
                 "4\n6", "(4", "4|6", "#", "~", "\t", "4\t", "=", "'4'", "!4", "1/2"]


def wrong_list_word(text):
    """The place that InvalidText has for a list of entries, or None, by the texts that have no wrong word."""
    words = text.split(" ")
    for many in range(1, len(words) + 1):
        begun = words[:many]
        entries = many <= 100 and all(re.fullmatch(NUMBER + "[+-]", word) for word in begun)
        if not entries and begun != ["-"]:
            return many - 1
    return None


def wrong_divisor(text):
    """The same for a form."""
    words = text.split(",")
    for many in range(1, len(words) + 1):
        begun = words[:many]
        fine = many <= 200 and all(re.fullmatch(NUMBER, word) for word in begun)
        fine = fine and all(int(low) < int(high) for low, high in zip(begun, begun[1:]))
        if not fine and begun != ["-"]:
            return many - 1
    return None


class TextCase(RaisingCase):
    def assert_place(self, call, text, place):
        self.assertEqual(self.assert_raises_exactly(InvalidText, call, text).place, place, repr(text))
        self.assertEqual(self.assert_raises_exactly(InvalidText, call, text=text).place, place)


class WritingLists(RaisingCase):
    def test_texts(self):
        self.assertEqual(write_list([]), "-")
        self.assertEqual(write_list([(4, True), (100, False), (400, True)]), "4+ 100- 400+")
        self.assertEqual(write_list([(1, False)]), "1-")
        self.assertEqual(write_list([(GREAT - 1, True)] * 2), "99999999999999999999+ 99999999999999999999+")
        self.assertEqual(write_list(entries=[(4, False)] * 100), " ".join(["4-"] * 100))

    def test_arguments_stay(self):
        for entries in LISTS:
            passed = list(entries)
            self.assertEqual(write_list(passed), write_list(entries))
            self.assertEqual(passed, entries)

    def test_each_list_has_its_own_text(self):
        lists = [list(chosen) for many in range(4) for chosen in product([(1, True), (1, False), (11, True)],
                                                                         repeat=many)]
        self.assertEqual(len({write_list(entries) for entries in lists}), len(lists))

    def test_what_is_no_list_of_entries(self):
        for thing in objects() + [0, 4, [(0, True)], [(GREAT, True)], [(4, 1)], [(True, True)], [(4, True)] * 101,
                                  ((4, True),), Exceptions([(4, True)]), "4+"]:
            self.assert_raises_exactly(InvalidEntries, write_list, thing)


class ReadingLists(TextCase):
    def test_back(self):
        source = random.Random(41)
        for entries in LISTS + [random_entries(source, many, 10 ** 6) for many in range(101)]:
            text = write_list(entries)
            found = read_list(text)
            self.assertEqual(found, entries)
            self.assertTrue(all(entry.__class__ is tuple and entry[1].__class__ is bool for entry in found))
            self.assertEqual(write_list(read_list(text=text)), text)
            self.assertEqual(Exceptions(found).entries, entries)

    def test_lists_are_new(self):
        for text in ("-", "4+", "4+ 100- 400+"):
            first, second = read_list(text), read_list(text)
            self.assertIsNot(first, second)
            first.append((3, True))
            self.assertEqual(read_list(text), second)

    def test_how_many(self):
        hundred = " ".join(["4+"] * 100)
        self.assertEqual(len(read_list(hundred)), 100)
        for more in (" 4+", " 4-", " ", " x", " 4+ 4+", " -", " 4+ x"):
            self.assert_place(read_list, hundred + more, 100)
        self.assert_place(read_list, " ".join(["4+"] * 99 + ["4"] + ["4+"]), 99)
        self.assert_place(read_list, " ".join(["4+"] * 1000), 100)

    def test_the_text_for_none(self):
        self.assertEqual(read_list("-"), [])
        for text, place in [("- ", 1), ("- -", 1), ("- 4+", 1), ("4+ -", 1), (" -", 0), ("-  ", 1), ("- x", 1),
                            ("--", 0), ("4+ - 6+", 1), ("4+ 6- -", 2), ("- 4+ x", 1), ("-+", 0), ("+-", 0)]:
            self.assert_place(read_list, text, place)

    def test_blanks(self):
        for text, place in [("", 0), (" ", 0), ("  ", 0), (" 4+", 0), ("4+ ", 1), ("4+  100-", 1), ("4+ 100-  400+", 2),
                            ("4+ 100- ", 2), ("4 +", 0), ("4+ 100 -", 1), ("  4+", 0)]:
            self.assert_place(read_list, text, place)

    def test_signs(self):
        for word in ("4", "100", "+", "++", "4++", "4+-", "4-+", "4--", "+4", "-4", "+4+", "4+4", "4+100-", "4*", "4=",
                     "4,", "4+,", "4+\n", "4 +", "4&", "4|", "y", "4+-4"):
            self.assert_place(read_list, word, 0)
            self.assert_place(read_list, "4+ " + word, 1)
            self.assert_place(read_list, word + " 4+", 0)
            self.assert_place(read_list, "4+ 100- " + word + " 400+", 2)

    def test_divisors(self):
        for number in WRONG_NUMBERS:
            for sign in "+-":
                if number + sign != "-":
                    self.assert_place(read_list, number + sign, 0)
                    self.assert_place(read_list, number + sign + " 4+", 0)
                self.assert_place(read_list, "4+ " + number + sign, 1)
                self.assert_place(read_list, "1- 1- " + number + sign + " x", 2)
        self.assertEqual(read_list(f"{GREAT - 1}+ {10 ** 19}-"), [(GREAT - 1, True), (10 ** 19, False)])

    def test_any_characters(self):
        source = random.Random(42)
        found = []
        for _ in range(6000):
            text = write_list(random_entries(source, source.randint(0, 4), 30))
            for _ in range(source.randint(0, 2)):
                place = source.randrange(len(text) + 1)
                text = text[:place] + source.choice(["", " ", "+", "-", "0", "1", "x",
                                                     "\n"]) + text[place + source.randint(0, 1):]
            place = wrong_list_word(text)
            found.append(place)
            if place is None:
                self.assertEqual(write_list(read_list(text)), text)
            else:
                self.assert_place(read_list, text, place)
        self.assertTrue(all(found.count(place) > 100 for place in (None, 0, 1, 2, 3)))

    def test_all_short_strings(self):
        for many in range(6):
            for signs in product("10+- ", repeat=many):
                text = "".join(signs)
                place = wrong_list_word(text)
                if place is None:
                    self.assertEqual(write_list(read_list(text)), text)
                else:
                    self.assert_place(read_list, text, place)


class WritingForms(unittest.TestCase):
    def test_texts(self):
        self.assertEqual(write_form(Form([])), "-")
        self.assertEqual(write_form(Form([1])), "1")
        self.assertEqual(write_form(form=Form([4, 100, 400])), "4,100,400")
        self.assertEqual(write_form(Form([1, GREAT - 1])), "1,99999999999999999999")

    def test_great_divisors(self):
        self.assertEqual(write_form(Form([1, 3]).spread(GREAT)), "1" + "0" * 20 + ",3" + "0" * 20)
        self.assertEqual(write_form(great_form([10 ** 60] * 100)), "1" + "0" * 6000)

    def test_forms_stay(self):
        for divisors in FORMS:
            form = Form(divisors)
            self.assertEqual(write_form(form), write_form(Form(divisors)))
            self.assertEqual(form.divisors, divisors)


class ReadingForms(TextCase):
    def test_back(self):
        source = random.Random(43)
        for divisors in FORMS + [sorted(source.sample(range(1, 10 ** 6), many)) for many in range(0, 201, 5)]:
            text = write_form(Form(divisors))
            found = read_form(text)
            self.assertIs(found.__class__, Form)
            self.assertEqual(found.divisors, divisors)
            self.assertEqual(write_form(read_form(text=text)), text)

    def test_how_many(self):
        numbers = [str(number) for number in range(1, 203)]
        self.assertEqual(len(read_form(",".join(numbers[:200]))), 200)
        for many in (201, 202):
            self.assert_place(read_form, ",".join(numbers[:many]), 200)
        for more in (",", ",x", ",1", ",-", ",201x"):
            self.assert_place(read_form, ",".join(numbers[:200]) + more, 200)
        self.assert_place(read_form, ",".join(numbers[:199] + ["199", "201"]), 199)

    def test_the_text_for_none(self):
        self.assertEqual(read_form("-").divisors, [])
        for text, place in [("-,", 1), ("-,-", 1), ("-,4", 1), ("4,-", 1), (",-", 0), ("-,x", 1), ("--", 0),
                            ("4,6,-", 2), ("4,-,6", 1), ("-4", 0), ("- ", 0), (" -", 0)]:
            self.assert_place(read_form, text, place)

    def test_commas_and_blanks(self):
        for text, place in [("", 0), (",", 0), (",,", 0), (",4", 0), ("4,", 1), ("4,,100", 1), ("4,100,", 2), (" ", 0),
                            ("4, 100", 1), ("4 ,100", 0), (" 4,100", 0), ("4,100 ", 1), ("4 100", 0), ("4;100", 0),
                            ("4,100,,400", 2), ("[4,100]", 0), ("4,100]", 1)]:
            self.assert_place(read_form, text, place)

    def test_divisors_ascend(self):
        for text, place in [("4,4", 1), ("4,3", 1), ("4,100,100", 2), ("4,100,99,400", 2), ("9,10", None), ("10,9", 1),
                            ("100,20,30", 1), ("1,2,2,1", 2), ("2,1,x", 1), ("2,3,x,1", 2)]:
            if place is None:
                self.assertEqual(write_form(read_form(text)), text)
            else:
                self.assert_place(read_form, text, place)

    def test_divisors(self):
        for number in WRONG_NUMBERS + ["4+", "4-", "+4", "+", "4^6"]:
            self.assert_place(read_form, number, 0)
            self.assert_place(read_form, number + ",400", 0)
            self.assert_place(read_form, "1," + number, 1)
            self.assert_place(read_form, "1,2," + number + ",x", 2)
        self.assertEqual(read_form(f"{10 ** 19},{GREAT - 1}").divisors, [10 ** 19, GREAT - 1])
        self.assert_place(read_form, f"{GREAT - 1},{GREAT}", 1)

    def test_great_texts_that_were_written(self):
        self.assert_place(read_form, write_form(Form([1, 3]).spread(GREAT)), 0)
        self.assert_place(read_form, write_form(Form([1]) ^ great_form([10 ** 59] * 100)), 1)

    def test_any_characters(self):
        source = random.Random(44)
        found = []
        for _ in range(6000):
            text = write_form(Form(sorted(source.sample(range(1, 30), source.randint(0, 4)))))
            for _ in range(source.randint(0, 2)):
                place = source.randrange(len(text) + 1)
                text = text[:place] + source.choice(["", ",", "-", "0", "1", " ", "x",
                                                     "\n"]) + text[place + source.randint(0, 1):]
            place = wrong_divisor(text)
            found.append(place)
            if place is None:
                self.assertEqual(write_form(read_form(text)), text)
            else:
                self.assert_place(read_form, text, place)
        self.assertTrue(all(found.count(place) > 100 for place in (None, 0, 1, 2, 3)))

    def test_all_short_strings(self):
        for many in range(6):
            for signs in product("10,- ", repeat=many):
                text = "".join(signs)
                place = wrong_divisor(text)
                if place is None:
                    self.assertEqual(write_form(read_form(text)), text)
                else:
                    self.assert_place(read_form, text, place)


if __name__ == "__main__":
    unittest.main()
