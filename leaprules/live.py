"""Rule books: lists of entries that change, with undo and marks."""

from leaprules.errors import InvalidEntries, NothingToUndo, TooLarge
from leaprules.forms import DIVISOR_LIMIT, check_between
from leaprules.lists import MOST_ENTRIES, Exceptions, FirstMatch


class RuleBook:
    """The entries of a list of exceptions; the last calls can be undone."""

    def __init__(self):
        # None of these lists of entries is ever changed in place, so books may share them.
        self._held = []
        # The entries before each call that can be undone.
        self._earlier = []
        # For each mark how many calls were before it.
        self._marks = []

    def put(self, divisor, is_in):
        """Add an entry at the end."""
        check_between(divisor, 1, DIVISOR_LIMIT - 1)
        if not isinstance(is_in, bool):
            raise InvalidEntries("the second part of an entry is a boolean")
        if len(self._held) == MOST_ENTRIES:
            raise TooLarge("the book has 100 entries already")
        self.change_to(self._held + [(divisor, is_in)])

    def take_out(self, index):
        """Take an entry away."""
        check_between(index, 0, len(self._held) - 1)
        self.change_to(self._held[:index] + self._held[index + 1:])

    def change_to(self, entries):
        """Keep other entries from now on, so that this can be undone."""
        self._earlier.append(self._held)
        self._held = entries

    def ask(self, number):
        """Whether a number is in the book's list."""
        rules = self.now()
        return rules(number)

    def now(self):
        """The book's list as it is now."""
        return Exceptions(self._held)

    def undo(self):
        """Undo the last put or take_out; marks behind it go too."""
        if not self._earlier:
            raise NothingToUndo("there is no call to undo")
        self.go_back(len(self._earlier) - 1)
        self._marks = [many for many in self._marks if many <= len(self._earlier)]

    def mark(self):
        """Make a mark and return its number."""
        self._marks.append(len(self._earlier))
        return len(self._marks) - 1

    def undo_to(self, index):
        """Undo the calls behind a mark; the mark stays, later ones go."""
        check_between(index, 0, len(self._marks) - 1)
        self._marks = self._marks[:index + 1]
        self.go_back(self._marks[index])

    def go_back(self, many):
        """Go back to what was behind so many calls."""
        if many < len(self._earlier):
            self._held = self._earlier[many]
            self._earlier = self._earlier[:many]

    def __len__(self):
        return len(self._held)

    def twin(self):
        """An independent copy, marks and what can be undone included."""
        return self.copied_to(RuleBook())

    def copied_to(self, book):
        """Another book, with everything that this one keeps."""
        book._held = self._held
        book._earlier = list(self._earlier)
        book._marks = list(self._marks)
        return book


class FirstBook(RuleBook):
    """The entries of a first-match list; the last calls can be undone."""

    def now(self):
        """The book's list as it is now."""
        return FirstMatch(self._held)

    def twin(self):
        """An independent copy, marks and what can be undone included."""
        return self.copied_to(FirstBook())
