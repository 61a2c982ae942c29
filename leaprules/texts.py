"""Texts of lists of entries and of forms; each value has exactly one."""

from leaprules.errors import InvalidText
from leaprules.forms import MOST_DIVISORS, Form
from leaprules.lists import MOST_ENTRIES, check_entries
from leaprules.rules import MOST_DIGITS, digits_of

NONE = "-"


def write_list(entries):
    """The text of a list of entries."""
    check_entries(entries)
    if not entries:
        return NONE
    return " ".join([str(divisor) + ("+" if is_in else "-") for divisor, is_in in entries])


def read_list(text):
    """The list of entries of a text."""
    entries = []
    for place, word in enumerate(words_of(text, " ")):
        if place == MOST_ENTRIES or not is_entry_word(word):
            raise InvalidText(place)
        entries.append((int(word[:-1]), word[-1] == "+"))
    return entries


def write_form(form):
    """The text of a form."""
    if len(form) == 0:
        return NONE
    return ",".join([digits_of(divisor) for divisor in form.divisors])


def read_form(text):
    """The form of a text."""
    divisors = []
    last = 0
    for place, word in enumerate(words_of(text, ",")):
        if place == MOST_DIVISORS or not is_divisor_word(word) or int(word) <= last:
            raise InvalidText(place)
        last = int(word)
        divisors.append(last)
    return Form(divisors)


def words_of(text, between):
    """The words of a text; there are none in the text for none."""
    words = text.split(between)
    if words[0] != NONE:
        return words
    # It can stand as the first word, but nothing can stand behind it.
    if len(words) > 1:
        raise InvalidText(1)
    return []


def is_entry_word(word):
    """Whether a word is a divisor with a sign behind it."""
    return word[-1:] in ("+", "-") and is_divisor_word(word[:-1])


def is_divisor_word(word):
    """Whether a word is a divisor, a number less than 10 ** 20."""
    return word != "0" and is_integer_word(word, MOST_DIGITS)


def is_integer_word(word, most):
    """Whether a word has one to so many digits, without leading zeros."""
    if not 1 <= len(word) <= most or not all(["0" <= sign <= "9" for sign in word]):
        return False
    return word == "0" or word[0] != "0"
