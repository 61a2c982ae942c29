"""Lists of exceptions and first-match lists, and how short such a list for a form can be."""

from math import lcm

from leaprules.errors import InvalidEntries, InvalidForm, TooLarge
from leaprules.forms import DIVISOR_LIMIT, check_between, check_number, is_divisor, is_number
from leaprules.rules import form_of_entries

MOST_ENTRIES = 100
MOST_JOINED = 6


def is_entry(thing):
    """Whether any object is a tuple of a divisor and a boolean."""
    return isinstance(thing, tuple) and len(thing) == 2 and is_divisor(thing[0]) and isinstance(thing[1], bool)


def check_entries(thing):
    """Raise InvalidEntries for anything but a list of 0 to 100 entries."""
    if not isinstance(thing, list) or len(thing) > MOST_ENTRIES or not all([is_entry(entry) for entry in thing]):
        raise InvalidEntries("entries are a list of 0 to 100 tuples of a number less than 10 ** 20 and a boolean")


def same_class(one, other):
    """Whether two lists of entries are of exactly the same class."""
    return isinstance(one, FirstMatch) == isinstance(other, FirstMatch)


class Exceptions:
    """A list of entries; the last one whose divisor divides a number decides."""

    def __init__(self, entries):
        check_entries(entries)
        self._held = list(entries)

    @property
    def entries(self):
        """The entries."""
        return list(self._held)

    def __call__(self, number):
        check_number(number)
        deciding = [is_in for divisor, is_in in self.as_read() if number % divisor == 0]
        return deciding != [] and deciding[-1]

    def __len__(self):
        return len(self._held)

    def __add__(self, other):
        if not isinstance(other, Exceptions) or not same_class(self, other):
            raise InvalidForm("the right side of the operator is no list of the same class")
        if len(self._held) + len(other._held) > MOST_ENTRIES:
            raise TooLarge("the result has more than 100 entries")
        return self.alike(self._held + other._held)

    def __eq__(self, other):
        return isinstance(other, Exceptions) and same_class(self, other) and self._held == other._held

    def form(self):
        """The form of the list."""
        return form_of_entries(self.as_read())

    def idle(self, index):
        """Whether the list without an entry has the same numbers."""
        check_between(index, 0, len(self._held) - 1)
        shorter = self.alike(self._held[:index] + self._held[index + 1:])
        # Equal rules have equal forms (R1).
        return self.form() == shorter.form()

    def turned(self):
        """The list of the other class with the entries in the opposite order."""
        return FirstMatch(self._held[::-1])

    def as_read(self):
        """The entries in the order in which a later one goes before an earlier one."""
        return list(self._held)

    def alike(self, entries):
        """A list of the same class with other entries."""
        return Exceptions(entries)


class FirstMatch(Exceptions):
    """A list of entries; the first one whose divisor divides a number decides."""

    def turned(self):
        """The list of the other class with the entries in the opposite order."""
        return Exceptions(self._held[::-1])

    def as_read(self):
        """The entries in the order in which a later one goes before an earlier one."""
        return self._held[::-1]

    def alike(self, entries):
        """A list of the same class with other entries."""
        return FirstMatch(entries)


def lcms_of(form):
    """The lcms of one or more divisors of a form, ascending; TooLarge for too many divisors."""
    if len(form) > MOST_JOINED:
        raise TooLarge("the form has more than 6 divisors")
    multiples = []
    for divisor in form.divisors:
        multiples = multiples + [divisor] + [lcm(multiple, divisor) for multiple in multiples]
    return sorted(set(multiples))


def list_for(form):
    """A list of exceptions for a form."""
    multiples = lcms_of(form)
    if multiples and multiples[-1] >= DIVISOR_LIMIT:
        raise TooLarge("an lcm of divisors is not less than 10 ** 20")
    return Exceptions([(multiple, form(multiple)) for multiple in multiples])


def longest_chain(form):
    """The longest list of lcms of divisors that shows by R5 how many entries a list for the form has at least."""
    # For each lcm the best chain that begins with it, in the form or not. From the greatest lcm on, because what
    # stands behind a number in a chain is greater.
    chains = {}
    for number in lcms_of(form)[::-1]:
        tails = [chains[later] for later in chains if later % number == 0 and form(later) != form(number)]
        chains[number] = [number] + best_chain(tails)
    return best_chain([chains[number] for number in chains if form(number)])


def best_chain(chains):
    """The longest of some lists, of several the least one; the empty list if there is none."""
    return min(chains, key=lambda chain: (-len(chain), chain), default=[])


def shows_bound(form, number, thing):
    """Whether any object is a list of at least so many numbers as in R5 for a form."""
    if not isinstance(thing, list) or len(thing) < number:
        return False
    if not all([is_number(part) for part in thing]):
        return False
    if not all([later % part == 0 for part, later in zip(thing, thing[1:])]):
        return False
    return all([form(part) == (place % 2 == 0) for place, part in enumerate(thing)])
