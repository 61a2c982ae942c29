"""Rule texts: the form that a text means, and the text of a form."""

from leaprules.errors import InvalidText
from leaprules.forms import Form

MOST_DIGITS = 20
MOST_OPEN = 40
OPENINGS = ("(", "!")
STRENGTH = {"|": 1, "^": 2, "&": 3}
BLOCK_DIGITS = 60
BLOCK = 10 ** 60


def form_of(text):
    """The form of a rule text."""
    # The whole text is read before any form is made: InvalidText goes before TooLarge.
    return worked_out(steps_in(text))


def text_in(form):
    """The rule text of a form: its divisors with ^ between, or 0."""
    if len(form) == 0:
        return "0"
    return "^".join([digits_of(divisor) for divisor in form.divisors])


def digits_of(number):
    """The digits of a number."""
    # In blocks, because Python refuses to write more than 4,300 digits at once.
    blocks = []
    while number >= BLOCK:
        number, low = divmod(number, BLOCK)
        blocks.append(str(low).zfill(BLOCK_DIGITS))
    blocks.append(str(number))
    return "".join(blocks[::-1])


def steps_in(text):
    """The lists of entries and the signs in a text, each sign behind what it is about."""
    steps = []
    waiting = []
    place = read_operand(text, 0, steps, waiting)
    while place < len(text):
        place = read_joint(text, place, steps, waiting)
        place = read_operand(text, place, steps, waiting)
    if "(" in waiting:
        raise InvalidText(place)
    move_joints(steps, waiting, 1)
    return steps


def read_operand(text, place, steps, waiting):
    """Read what begins at a place, up to the last parenthesis that closes behind it."""
    place = read_openings(text, place, waiting)
    place = read_leaf(text, place, steps)
    move_nots(steps, waiting)
    while text[place:place + 1] == ")" and "(" in waiting:
        move_joints(steps, waiting, 1)
        waiting.pop()
        move_nots(steps, waiting)
        place += 1
    return place


def read_openings(text, place, waiting):
    """Read the signs ! and the parentheses that open at a place."""
    while text[place:place + 1] in OPENINGS:
        if waiting.count("(") + waiting.count("!") == MOST_OPEN:
            raise InvalidText(place)
        waiting.append(text[place])
        place += 1
    return place


def read_joint(text, place, steps, waiting):
    """Read a sign that joins what is before it and what is behind it."""
    sign = text[place]
    if sign not in STRENGTH:
        raise InvalidText(place)
    # A sign of the same strength is moved too: operators of one kind are read from the left.
    move_joints(steps, waiting, STRENGTH[sign])
    waiting.append(sign)
    return place + 1


def move_joints(steps, waiting, strength):
    """Move the last joining signs to the steps, as long as they have at least this strength."""
    while waiting and STRENGTH.get(waiting[-1], 0) >= strength:
        steps.append(waiting.pop())


def move_nots(steps, waiting):
    """Move the last signs ! to the steps: what they negate has ended."""
    while waiting and waiting[-1] == "!":
        steps.append(waiting.pop())


def read_leaf(text, place, steps):
    """Read a number, 0 or a list of exceptions; each comes to a list of entries."""
    sign = text[place:place + 1]
    if sign == "[":
        return read_list(text, place + 1, steps)
    if sign == "0":
        steps.append([])
        return place + 1
    end = number_end(text, place)
    steps.append([(int(text[place:end]), True)])
    return end


def read_list(text, place, steps):
    """Read a list of exceptions from behind its bracket."""
    entries = []
    steps.append(entries)
    if text[place:place + 1] == "]":
        return place + 1
    place = read_entry(text, place, entries)
    while text[place:place + 1] == " ":
        place = read_entry(text, place + 1, entries)
    if text[place:place + 1] != "]":
        raise InvalidText(place)
    return place + 1


def read_entry(text, place, entries):
    """Read a divisor and its sign."""
    end = number_end(text, place)
    sign = text[end:end + 1]
    if sign not in ("+", "-"):
        raise InvalidText(end)
    entries.append((int(text[place:end]), sign == "+"))
    return end + 1


def number_end(text, place):
    """The place behind the number that begins at a place."""
    if not "1" <= text[place:place + 1] <= "9":
        raise InvalidText(place)
    end = place + 1
    while end < place + MOST_DIGITS and "0" <= text[end:end + 1] <= "9":
        end += 1
    return end


def worked_out(steps):
    """The form that the steps come to."""
    forms = []
    for step in steps:
        if isinstance(step, list):
            forms.append(form_of_entries(step))
        elif step == "!":
            forms.append(~forms.pop())
        else:
            right = forms.pop()
            left = forms.pop()
            forms.append(joined(left, step, right))
    return forms[0]


def joined(left, sign, right):
    """The form of two forms with a sign between."""
    if sign == "&":
        return left & right
    if sign == "^":
        return left ^ right
    return left | right


def form_of_entries(entries):
    """The form of a list of exceptions; TooLarge if that of its first entries is too large."""
    form = Form([])
    for divisor, is_in in entries:
        multiples = Form([divisor])
        if is_in:
            form = form | multiples
        else:
            form = form & ~multiples
    return form
