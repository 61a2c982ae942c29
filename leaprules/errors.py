"""The errors of the package, one class for each kind of failure."""


class RuleError(ValueError):
    """What all errors of the package have in common."""


class InvalidDivisors(RuleError):
    """An object is no list of divisors."""


class InvalidEntries(RuleError):
    """An object is no list of entries, or no part of an entry."""


class InvalidAnswers(RuleError):
    """An object is no list of answers."""


class InvalidNumber(RuleError):
    """An integer is out of its range."""


class InvalidForm(RuleError):
    """The right side of an operator is not of the class that it needs."""


class TooLarge(RuleError):
    """A form, or what it is made for, has too many parts."""


class NoNumber(RuleError):
    """A form without numbers was asked for one of them."""


class NothingToUndo(RuleError):
    """There is no call to undo."""


# The messages of the next two do not tell the argument: Python refuses to
# write an integer of more than 4,300 digits, and a least period may have more.


class IsPeriod(RuleError):
    """A number is a period of a form, so nothing shows that it is none."""

    def __init__(self, least):
        super().__init__("the number is a period of the form")
        self.least = least


class InvalidText(RuleError):
    """A text is not written as it has to be, from a place on."""

    def __init__(self, place):
        super().__init__("the text has something that cannot stand at its place")
        self.place = place
