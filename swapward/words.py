"""Names and whole numbers, as texts write them."""

from swapward.errors import NoRow

# Written out, as Python's own islower and isdigit take signs of other scripts too.
LETTERS = "abcdefghijklmnopqrstuvwxyz"
FIGURES = "0123456789"

MOST_LETTERS = 8
MOST_FIGURES = 12


def made_of(text, signs):
    return all([sign in signs for sign in text])


def is_name(thing):
    return isinstance(thing, str) and 1 <= len(thing) <= MOST_LETTERS and made_of(thing, LETTERS)


def writes_number(text):
    if text.startswith("0"):
        return text == "0"
    return 1 <= len(text) <= MOST_FIGURES and made_of(text, FIGURES)


def number_of(text):
    if not writes_number(text):
        raise NoRow(text)
    return int(text)


def number_within(text, least, greatest):
    number = number_of(text)
    if not least <= number <= greatest:
        raise NoRow(text)
    return number
