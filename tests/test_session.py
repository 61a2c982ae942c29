import random
import re
import unittest

from leaprules.compare import first_difference
from leaprules.counts import count_up_to
from leaprules.errors import InvalidNumber, InvalidText, NothingToUndo, TooLarge
from leaprules.live import FirstBook, RuleBook
from leaprules.periods import period
from leaprules.rules import form_of, text_in
from leaprules.session import session
from leaprules.texts import write_list
from tests.helpers import GREAT, primes

LARGE = "^".join(str(prime) for prime in primes(201))
THIRTEEN = "^".join(str(prime) for prime in primes(13))
NUMBER = r"(0|[1-9][0-9]{0,59})"
TEXT = r"([^ ]+)"
ERRORS = {TooLarge: "TooLarge", InvalidNumber: "InvalidNumber", InvalidText: "InvalidText",
          NothingToUndo: "NothingToUndo"}
ABOUT_RULES = {
    f"rule {TEXT}": lambda text: text_in(form_of(text)),
    f"period {TEXT}": lambda text: str(period(form_of(text))),
    f"first {TEXT} {TEXT}": lambda one, other: difference(form_of(one), form_of(other)),
    f"count {TEXT} {NUMBER}": lambda text, number: str(count_up_to(form_of(text), int(number))),
}
ABOUT_A_BOOK = {
    rf"put {NUMBER} ([+-])": lambda book, number, sign: done(book.put(int(number), sign == "+")),
    f"out {NUMBER}": lambda book, index: done(book.take_out(int(index))),
    f"ask {NUMBER}": lambda book, number: "yes" if book.ask(int(number)) else "no",
    "list": lambda book: write_list(book.now().entries),
    "form": lambda book: text_in(book.now().form()),
    "undo": lambda book: done(book.undo()),
    "mark": lambda book: str(book.mark()),
    f"back {NUMBER}": lambda book, index: done(book.undo_to(int(index))),
}


def difference(one, other):
    found = first_difference(one, other)
    return "none" if found is None else str(found)


def done(nothing):
    return "ok" if nothing is None else "something"


def called(call, *arguments):
    try:
        return call(*arguments)
    except tuple(ERRORS) as error:
        return ERRORS[error.__class__]


def answers_to(lines):
    """The answers to lines, by what matches them whole."""
    book, answers = None, []
    for line in lines:
        if line in ("book", "firstbook"):
            book = RuleBook() if line == "book" else FirstBook()
            answers.append("ok")
            continue
        answer = "?"
        for known, call in ABOUT_RULES.items():
            if found := re.fullmatch(known, line):
                answer = called(call, *found.groups())
        for known, call in ABOUT_A_BOOK.items():
            if book is not None and (found := re.fullmatch(known, line)):
                answer = called(call, book, *found.groups())
        answers.append(answer)
    return answers


class SessionCase(unittest.TestCase):
    def assert_answers(self, *lines_and_answers):
        lines = [line for line, _ in lines_and_answers]
        answers = [answer for _, answer in lines_and_answers]
        self.assertEqual(session("\n".join(lines)).split("\n"), answers)
        self.assertEqual(answers_to(lines), answers)

    def assert_each(self, *lines_and_answers):
        """Each line in a session of its own."""
        for line, answer in lines_and_answers:
            self.assertEqual(session(line), answer, line)
            self.assertEqual(session(rows=line), answer)


class Rules(SessionCase):
    def test_rule(self):
        self.assert_each(("rule 4&!100|400", "4^100^400"), ("rule 0", "0"), ("rule []", "0"), ("rule [4+]", "4"),
                         ("rule !0", "1"), ("rule (2|3)", "2^3^6"), ("rule 99999999999999999999", "9" * 20),
                         ("rule 100000000000&100000000001", "1" + "0" * 10 + "1" + "0" * 11),
                         ("rule 4(", "InvalidText"), ("rule x", "InvalidText"), ("rule 04", "InvalidText"),
                         ("rule rule", "InvalidText"), ("rule [", "InvalidText"), ("rule 1" + "0" * 20, "InvalidText"),
                         ("rule " + LARGE, "TooLarge"), ("rule " + LARGE + "^", "InvalidText"))

    def test_period(self):
        self.assert_each(("period 4&!100|400", "400"), ("period 0", "1"), ("period 1", "1"), ("period 6^10", "30"),
                         ("period 4(", "InvalidText"), ("period " + LARGE, "TooLarge"),
                         ("period 99999999999999999999^99999999999999999998", "99999999999999999997" + "0" * 19 + "2"))
        self.assertEqual(session("period " + "^".join(str(prime) for prime in primes(170, 10 ** 8))),
                         str(period(form_of("^".join(str(prime) for prime in primes(170, 10 ** 8))))))

    def test_first(self):
        self.assert_each(("first 4 4&!100|400", "100"), ("first 4 4", "none"), ("first 0 []", "none"),
                         ("first 0 7", "7"), ("first 7 0", "7"), ("first 1 2", "1"), ("first 2|3 2^3", "6"),
                         ("first 2&3 6", "none"), ("first 99999999999999999999 0", "9" * 20))

    def test_count(self):
        self.assert_each(("count 4&!100|400 2026", "491"), ("count 4 0", "0"), ("count 4 3", "0"), ("count 4 4", "1"),
                         ("count 0 100", "0"), ("count 1 " + "9" * 60, "9" * 60),
                         ("count 4 1" + "0" * 59, "25" + "0" * 57), ("count " + THIRTEEN + " 5", "TooLarge"),
                         ("count " + THIRTEEN + " 0", "TooLarge"), ("count " + LARGE + " 5", "TooLarge"),
                         ("count 4( 5", "InvalidText"))

    def test_answers_longer_than_python_writes(self):
        text = "&".join(str(GREAT - number) for number in range(1, 400))
        self.assertGreater(len(session(f"rule {text}")), 5000)
        self.assertEqual(session(f"rule {text}"), text_in(form_of(text)))
        self.assertEqual(session(f"period {text}"), text_in(form_of(text)))
        self.assertEqual(session(f"first {text} 0"), text_in(form_of(text)))

    def test_rule_texts_are_read_in_their_order(self):
        self.assert_each(("first 4( 4", "InvalidText"), ("first 4 4(", "InvalidText"), ("first 4( x", "InvalidText"),
                         (f"first {LARGE} 4(", "TooLarge"), (f"first 4( {LARGE}", "InvalidText"),
                         (f"first {LARGE} {LARGE}", "TooLarge"), (f"first 4 {LARGE}", "TooLarge"),
                         (f"first {LARGE} 4", "TooLarge"), ("count 4( 0", "InvalidText"),
                         (f"count 4( {'9' * 60}", "InvalidText"), (f"count {LARGE} {'9' * 60}", "TooLarge"))

    def test_rule_texts_with_blanks(self):
        self.assert_each(("rule [4+ 100- 400+]", "?"), ("rule [4+ 100-]", "?"), ("period [4+ 100-]", "?"),
                         ("rule 4 &5", "?"), ("first [4+ 100-] 4", "?"), ("first [4+ 100-]", "InvalidText"),
                         ("count [4+ 100-] 5", "?"), ("count [4+ 100", "InvalidText"))

    def test_lines_without_a_book_change_no_book(self):
        self.assert_answers(("book", "ok"), ("put 4 +", "ok"), ("rule 6", "6"), ("period 6", "6"), ("first 4 6", "4"),
                            ("count 4 8", "2"), ("rule x", "InvalidText"), ("list", "4+"))


class Books(SessionCase):
    def test_a_book(self):
        self.assert_answers(("book", "ok"), ("list", "-"), ("form", "0"), ("ask 4", "no"), ("put 4 +", "ok"),
                            ("put 100 -", "ok"), ("put 400 +", "ok"), ("list", "4+ 100- 400+"), ("form", "4^100^400"),
                            ("ask 2000", "yes"), ("ask 1900", "no"), ("mark", "0"), ("out 1", "ok"),
                            ("list", "4+ 400+"), ("ask 1900", "yes"), ("mark", "1"), ("undo", "ok"),
                            ("list", "4+ 100- 400+"), ("mark", "1"), ("put 3 +", "ok"), ("back 0", "ok"),
                            ("list", "4+ 100- 400+"), ("mark", "1"))

    def test_a_first_book(self):
        self.assert_answers(("firstbook", "ok"), ("put 4 +", "ok"), ("put 100 -", "ok"), ("list", "4+ 100-"),
                            ("form", "4"), ("ask 100", "yes"), ("out 0", "ok"), ("put 50 +", "ok"), ("form", "50^100"),
                            ("ask 100", "no"), ("ask 50", "yes"))

    def test_several_books(self):
        self.assert_answers(("book", "ok"), ("put 4 +", "ok"), ("mark", "0"), ("book", "ok"), ("list", "-"),
                            ("mark", "0"), ("undo", "NothingToUndo"), ("put 4 +", "ok"), ("put 2 -", "ok"),
                            ("ask 4", "no"), ("firstbook", "ok"), ("list", "-"), ("back 0", "InvalidNumber"),
                            ("put 4 +", "ok"), ("put 2 -", "ok"), ("ask 4", "yes"), ("firstbook", "ok"), ("list", "-"),
                            ("book", "ok"), ("form", "0"))

    def test_before_the_first_book(self):
        lines = ["put 4 +", "put 0 +", "out 0", "ask 4", "ask 0", "list", "form", "undo", "mark", "back 0"]
        self.assert_each(*[(line, "?") for line in lines])
        self.assert_answers(*[(line, "?") for line in lines], ("rule 4", "4"), ("list", "?"), ("firstbook", "ok"),
                            ("list", "-"), ("mark", "0"))
        self.assert_answers(("book 4", "?"), ("list", "?"), (" book", "?"), ("mark", "?"), ("books", "?"),
                            ("form", "?"), ("firstbook", "ok"), ("form", "0"))

    def test_errors(self):
        self.assert_answers(("book", "ok"), ("undo", "NothingToUndo"), ("out 0", "InvalidNumber"),
                            ("back 0", "InvalidNumber"), ("ask 0", "InvalidNumber"), ("put 0 +", "InvalidNumber"),
                            ("put 0 -", "InvalidNumber"), (f"put {GREAT} +", "InvalidNumber"),
                            (f"put {'9' * 60} -", "InvalidNumber"), ("list", "-"), ("mark", "0"),
                            (f"put {GREAT - 1} -", "ok"), ("list", "9" * 20 + "-"), ("out 1", "InvalidNumber"),
                            ("out " + "9" * 60, "InvalidNumber"), ("back 1", "InvalidNumber"), ("mark", "1"),
                            ("out 0", "ok"), ("undo", "ok"), ("undo", "ok"), ("undo", "NothingToUndo"), ("mark", "1"))

    def test_lines_behind_an_error(self):
        self.assert_answers(("firstbook", "ok"), ("put 4 +", "ok"), ("mark", "0"), ("put 0 +", "InvalidNumber"),
                            ("put 4 *", "?"), ("out 5", "InvalidNumber"), ("", "?"), ("rule (", "InvalidText"),
                            ("list", "4+"), ("form", "4"), ("mark", "1"), ("undo", "ok"), ("list", "-"), ("mark", "0"))

    def test_a_form_that_is_too_large(self):
        puts = [(f"put {prime} +", "ok") for prime in primes(8)]
        self.assert_answers(("book", "ok"), *puts, ("form", "TooLarge"), ("ask 19", "yes"), ("put 1 +", "ok"),
                            ("form", "TooLarge"), ("out 0", "ok"), ("form", "1"), ("undo", "ok"), ("form", "TooLarge"),
                            ("undo", "ok"), ("undo", "ok"), ("list", "2+ 3+ 5+ 7+ 11+ 13+ 17+"))

    def test_a_hundred_entries(self):
        puts = [(f"put {number} -", "ok") for number in range(1, 101)]
        self.assert_answers(("firstbook", "ok"), *puts, ("put 101 +", "TooLarge"), ("put 0 +", "InvalidNumber"),
                            ("list", " ".join(f"{number}-" for number in range(1, 101))), ("out 99", "ok"),
                            ("put 101 +", "ok"), ("put 1 +", "TooLarge"))

    def test_undo_marks_and_back(self):
        self.assert_answers(("book", "ok"), ("mark", "0"), ("put 2 +", "ok"), ("mark", "1"), ("mark", "2"),
                            ("put 3 +", "ok"), ("mark", "3"), ("undo", "ok"), ("mark", "3"), ("back 1", "ok"),
                            ("list", "2+"), ("mark", "2"), ("undo", "ok"), ("list", "-"), ("back 1", "InvalidNumber"),
                            ("back 0", "ok"), ("mark", "1"))


class OtherLines(SessionCase):
    def test_empty_words(self):
        self.assert_each(("", "?"), (" ", "?"), ("  ", "?"), (" rule 4", "?"), ("rule 4 ", "?"), ("rule  4", "?"),
                         ("rule ", "?"), ("period ", "?"), ("first 4 ", "?"), ("first  4", "?"), ("count 4 ", "?"),
                         ("book ", "?"), (" firstbook", "?"), ("count  4", "?"))
        self.assert_answers(("book", "ok"), ("put 4 + ", "?"), ("put  4 +", "?"), (" put 4 +", "?"), ("put 4  +", "?"),
                            ("list ", "?"), (" list", "?"), ("out ", "?"), ("undo ", "?"), ("mark ", "?"), ("", "?"),
                            ("form ", "?"), ("back ", "?"), ("ask  4", "?"), ("book ", "?"), ("list", "-"))

    def test_one_line_for_each(self):
        self.assertEqual(session(""), "?")
        self.assertEqual(session("\n"), "?\n?")
        self.assertEqual(session("\n\n"), "?\n?\n?")
        self.assertEqual(session("rule 4\n"), "4\n?")
        self.assertEqual(session("\nrule 4"), "?\n4")
        self.assertEqual(session("book\nlist"), "ok\n-")
        self.assertEqual(session("rule 4\n\nrule 6"), "4\n?\n6")

    def test_unknown_words(self):
        words = ["x", "Rule", "RULE", "rules", "ru", "put4", "lists", "Book", "first_book", "text", "share", "none",
                 "ok", "?", "nth", "twin", "now", "take_out", "undo_to", "wanted", "4", "+", "-", "get", "count_up_to"]
        for before in ([], [("book", "ok")], [("firstbook", "ok")]):
            lines = [(word + more, "?") for word in words for more in ("", " 4", " 4 +", " 4 4")]
            self.assert_answers(*before, *lines[:190])

    def test_missing_and_additional_words(self):
        lines = ["rule", "rule 4 6", "period", "period 4 6", "first", "first 4", "first 4 6 8", "count", "count 4",
                 "count 4 6 8", "put", "put 4", "put +", "put 4 + +", "put 4 + 6", "out", "out 0 0", "ask", "ask 4 6",
                 "list 4", "list -", "form 4", "form form", "undo 1", "undo undo", "mark 0", "back", "back 0 0",
                 "book book", "book 4", "firstbook 4", "book firstbook"]
        self.assert_each(*[(line, "?") for line in lines])
        self.assert_answers(("book", "ok"), ("put 4 +", "ok"), ("mark", "0"), *[(line, "?") for line in lines],
                            ("list", "4+"), ("mark", "1"))

    def test_numbers(self):
        wrong = ["00", "04", "01", "0" * 60, "1" + "0" * 60, "9" * 61, "-1", "-4", "+4", "4.0", "x", "4x", "x4",
                 "1_000", "0x4", "4,", "1e2", "+", "(4)", "\t4", "4\t"]
        for number in wrong:
            self.assert_answers((f"count 4 {number}", "?"), (f"count {LARGE} {number}", "?"),
                                (f"count ( {number}", "?"), ("book", "ok"), (f"put {number} +", "?"), ("put 4 +", "ok"),
                                ("mark", "0"), (f"out {number}", "?"), (f"ask {number}", "?"), (f"back {number}", "?"),
                                ("list", "4+"))
        self.assert_answers(("book", "ok"), (f"ask {'9' * 60}", "no"), (f"ask 1{'0' * 59}", "no"), ("put 1 +", "ok"),
                            (f"ask {'9' * 60}", "yes"), (f"ask 1{'0' * 60}", "?"), ("out 0", "ok"), ("ask 1", "no"))

    def test_signs(self):
        lines = [(f"put 4 {sign}", "?") for sign in ["*", "++", "--", "+-", "1", "True", "yes", "x", "&", "=", "4",
                                                     "\t+"]]
        self.assert_answers(("book", "ok"), *lines, ("put 0 *", "?"), ("put + 4", "?"), ("list", "-"))

    def test_equal_sessions(self):
        rows = "book\nput 4 +\nmark\nput 6 -\nform\nback 0\nlist"
        self.assertEqual(session(rows), "ok\nok\n0\nok\n4^12\nok\n4+")
        self.assertEqual(session(rows), session(rows))
        # No book is left from the session before.
        self.assertEqual(session("list"), "?")


class LongSessions(SessionCase):
    def random_line(self, source):
        texts = ["0", "1", "4", "6", "4^6", "2|3", "!4", "4&!100|400", "[4+]", "(", "4|", "x", "[4+ 100-]", LARGE,
                 THIRTEEN]
        numbers = ["0", "1", "2", "3", "4", "6", "12", "00", "100", "9" * 60, str(GREAT), "-1", "x"]
        line = source.choice(["rule T", "period T", "first T T", "count T N", "ask N", "list", "form", "undo", "mark",
                              "back I", "put N +", "put N -", "put I +", "put I -", "out I", "x N", "book", "firstbook",
                              "undo", "mark"])
        if line in ("book", "firstbook") and source.random() < 0.7:
            line = "list"
        line = re.sub("T", lambda found: source.choice(texts), line)
        line = re.sub("N", lambda found: source.choice(numbers), line)
        line = re.sub("I", lambda found: str(source.randint(0, 4)), line)
        if source.random() < 0.1:
            place = source.randrange(len(line) + 1)
            line = line[:place] + source.choice([" ", "", "x", "4", "+"]) + line[place + source.randint(0, 1):]
        return line

    def test_two_hundred_lines(self):
        source = random.Random(51)
        found = []
        for _ in range(25):
            lines = [self.random_line(source) for _ in range(200)]
            answers = session("\n".join(lines)).split("\n")
            self.assertEqual(answers, answers_to(lines))
            found += answers
        for answer in ["?", "ok", "yes", "no", "none", "-"] + list(ERRORS.values()):
            self.assertGreater(found.count(answer), 10, answer)

    def test_more_lines(self):
        lines = ["book"] + [f"put {number} +" for number in range(1, 60)] + ["undo", "mark"] * 200
        self.assertEqual(session("\n".join(lines)).split("\n"), answers_to(lines))


if __name__ == "__main__":
    unittest.main()
