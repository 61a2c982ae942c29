"""Finding divisors by answers: which numbers are in an unknown form."""

from leaprules.errors import InvalidAnswers
from leaprules.forms import Form, check_between, divided_oddly, limited_form

GREATEST_DIVISOR = 10 ** 9
MOST_ANSWERS = 300


def wanted(divisor):
    """The numbers whose answers tell whether a form has a divisor, ascending."""
    check_between(divisor, 1, GREATEST_DIVISOR)
    numbers = [divisor]
    for prime in primes_of(divisor):
        numbers = numbers + [number // prime for number in numbers]
    return sorted(numbers)


def primes_of(number):
    """The primes that divide a number, ascending."""
    primes = []
    factor = 2
    while factor * factor <= number:
        if number % factor == 0:
            primes.append(factor)
        while number % factor == 0:
            number //= factor
        factor += 1
    if number > 1:
        primes.append(number)
    return primes


def are_answers(thing):
    """Whether any object is a list of booleans."""
    return isinstance(thing, list) and all([isinstance(answer, bool) for answer in thing])


def has_divisor(answers, divisor):
    """Whether a form with these answers at the wanted numbers has a divisor."""
    if not are_answers(answers):
        raise InvalidAnswers("answers are a list of booleans")
    if len(answers) != len(wanted(divisor)):
        raise InvalidAnswers("there is one answer for each wanted number")
    return answers.count(True) % 2 == 1


def form_by(answers):
    """The form with these answers at 1, 2, 3, ... and no divisor that is greater than their number."""
    if not are_answers(answers) or len(answers) > MOST_ANSWERS:
        raise InvalidAnswers("answers are a list of 0 to 300 booleans")
    divisors = []
    for number, answer in enumerate(answers, start=1):
        # The divisors before it are settled, so a wrong answer of theirs can only be put right by this one.
        if divided_oddly(number, divisors) != answer:
            divisors.append(number)
    return limited_form(divisors)


class HiddenForm:
    """A form that is known only by what it answers."""

    def __init__(self, divisors):
        self._form = Form(divisors)
        self._asked = 0

    def ask(self, number):
        """Whether a number is in the form."""
        answer = self._form(number)
        # Only here, because a question that raises an error is not counted.
        self._asked += 1
        return answer

    @property
    def asked(self):
        """How many questions were answered."""
        return self._asked


def find(hidden, limit):
    """The form of a hidden form whose divisors are at most a limit."""
    check_between(limit, 0, MOST_ANSWERS)
    return form_by([hidden.ask(number) for number in range(1, limit + 1)])
