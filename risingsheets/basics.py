"""What several modules need: kinds of values, and numbers that stand in texts."""

from risingsheets.errors import BadText

FIGURES = "0123456789"


def is_integer(value):
    """Whether value is an int that is not a bool."""
    return isinstance(value, int) and not isinstance(value, bool)


def is_within(value, low, high):
    """Whether value is an integer from low to high."""
    return is_integer(value) and low <= value <= high


def is_tuple_of(value, many):
    """Whether value is a tuple of just so many items."""
    return isinstance(value, tuple) and len(value) == many


def ascends(items):
    """Whether each item is less than the one behind it."""
    return all([low < high for low, high in zip(items, items[1:])])


def read_number(text, most):
    """The integer from 0 to most that text tells in decimal figures; BadText if it tells none."""
    # Python turns no text of very many figures into a number, so the length is asked first.
    if text == "" or len(text) > len(str(most)):
        raise BadText()
    if not all([sign in FIGURES for sign in text]):
        raise BadText()
    number = int(text)
    if number > most or str(number) != text:
        raise BadText()
    return number
