"""Sessions: the answers to lines about rules and about a rule book."""

from leaprules.compare import first_difference
from leaprules.counts import count_up_to
from leaprules.errors import InvalidNumber, InvalidText, NothingToUndo, TooLarge
from leaprules.live import FirstBook, RuleBook
from leaprules.periods import period
from leaprules.rules import digits_of, form_of, text_in
from leaprules.texts import is_integer_word, write_list

LONGEST_NUMBER = 60
UNKNOWN = "?"
# What stands behind the first word: a rule text T, a number N, a sign S.
RULE_LINES = {"rule": "T", "period": "T", "first": "TT", "count": "TN"}
BOOK_LINES = {"put": "NS", "out": "N", "ask": "N", "list": "", "form": "", "undo": "", "mark": "", "back": "N"}


def session(rows):
    """The answers to the lines of a string, one line for each."""
    book = None
    answers = []
    for line in rows.split("\n"):
        if line == "book":
            book = RuleBook()
            answers.append("ok")
        elif line == "firstbook":
            book = FirstBook()
            answers.append("ok")
        else:
            answers.append(answer_to(line.split(" "), book))
    return "\n".join(answers)


def answer_to(words, book):
    """The answer to a line that makes no new book; the book may be None."""
    first = words[0]
    others = words[1:]
    # What lines ask for raises no other errors than the four that are caught here.
    try:
        if first in RULE_LINES and are_of_kinds(others, RULE_LINES[first]):
            return written(about_rules(first, values_of(others, RULE_LINES[first])))
        if book is not None and first in BOOK_LINES and are_of_kinds(others, BOOK_LINES[first]):
            return written(about_book(book, first, values_of(others, BOOK_LINES[first])))
    except InvalidText:
        return "InvalidText"
    except InvalidNumber:
        return "InvalidNumber"
    except TooLarge:
        return "TooLarge"
    except NothingToUndo:
        return "NothingToUndo"
    return UNKNOWN


def are_of_kinds(words, kinds):
    """Whether there is one word of each of some kinds, in their order."""
    return len(words) == len(kinds) and all([is_of_kind(word, kind) for word, kind in zip(words, kinds)])


def is_of_kind(word, kind):
    """Whether a word is of a kind; whether a rule text is right is seen when it is read."""
    if kind == "N":
        return is_integer_word(word, LONGEST_NUMBER)
    if kind == "S":
        return word in ("+", "-")
    return word != ""


def values_of(words, kinds):
    """What words of some kinds mean, read in their order."""
    return [value_of(word, kind) for word, kind in zip(words, kinds)]


def value_of(word, kind):
    """What a word of a kind means: a form, an integer or a boolean."""
    if kind == "N":
        return int(word)
    if kind == "S":
        return word == "+"
    return form_of(word)


def about_rules(first, values):
    """What a line about rules asks for."""
    if first == "rule":
        return text_in(values[0])
    if first == "period":
        return period(values[0])
    if first == "count":
        return count_up_to(values[0], values[1])
    least = first_difference(values[0], values[1])
    if least is None:
        return "none"
    return least


def about_book(book, first, values):
    """Do or find out what a line about the book asks for."""
    if first == "put":
        return book.put(values[0], values[1])
    if first == "out":
        return book.take_out(values[0])
    if first == "ask":
        return book.ask(values[0])
    if first == "undo":
        return book.undo()
    if first == "mark":
        return book.mark()
    if first == "back":
        return book.undo_to(values[0])
    rules = book.now()
    if first == "form":
        return text_in(rules.form())
    return write_list(rules.entries)


def written(result):
    """The answer for the result of a call."""
    if result is None:
        return "ok"
    if isinstance(result, str):
        return result
    if isinstance(result, bool):
        return "yes" if result else "no"
    return digits_of(result)
