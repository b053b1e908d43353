"""Minutes as the texts of a clock."""

from risingsheets.basics import read_number
from risingsheets.bounds import MAX_MINUTE
from risingsheets.errors import BadText


def clock_text(minute):
    """The hours, which go on behind 23, a colon, and the minutes in two figures."""
    hours, rest = divmod(minute, 60)
    return f"{hours}:{rest:02d}"


def read_clock(value):
    """The minute of which value is the text; BadText if there is none."""
    if not isinstance(value, str):
        raise BadText()
    hours, _, rest = value.partition(":")
    if len(rest) != 2:
        raise BadText()
    tens = read_number(rest[0], 5)
    ones = read_number(rest[1], 9)
    return 60 * read_number(hours, MAX_MINUTE // 60) + 10 * tens + ones
