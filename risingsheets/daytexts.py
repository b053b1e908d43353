"""Days of a calendar as texts."""

from risingsheets.basics import read_number
from risingsheets.bounds import MAX_SPAN
from risingsheets.days import classes_with_days, dates_fit, expressed, plain_expression
from risingsheets.errors import BadText

WORDS = ("mo", "tu", "we", "th", "fr", "sa", "su", "hol")


def dates_text(dates):
    """The text of one date or more."""
    return ",".join([str(day) for day in dates])


def read_dates(text):
    """The dates that text tells, in the order in which they stand; BadText if it tells none."""
    return tuple([read_number(figures, MAX_SPAN - 1) for figures in text.split(",")])


def split_dates(text, word):
    """What stands ahead of the word in the text, and the dates behind it; () if the word is not there."""
    front, found, dates = text.partition(word)
    if found == "":
        return (front, ())
    return (front, read_dates(dates))


def base_text(calendar, base):
    """The text of the base of an expression."""
    standing = classes_with_days(calendar)
    named = [WORDS[kind] for kind in standing if kind in base]
    if len(named) == len(standing):
        return "daily"
    if len(named) == 0:
        return "never"
    return "+".join(named)


def read_base(calendar, text):
    """The base of classes with days of which text is the text; BadText if there is none."""
    standing = classes_with_days(calendar)
    words = text.split("+")
    base = tuple([kind for kind in standing if text == "daily" or WORDS[kind] in words])
    if base_text(calendar, base) != text:
        raise BadText()
    return base


def days_text(calendar, days):
    """The text of the plain expression of days."""
    base, dates_not, dates_also = plain_expression(calendar, days)
    text = base_text(calendar, base)
    if dates_not != ():
        text = f"{text} not {dates_text(dates_not)}"
    if dates_also != ():
        text = f"{text} also {dates_text(dates_also)}"
    return text


def read_days(calendar, value):
    """The days of the expression of which value is the text; BadText if there is none."""
    if not isinstance(value, str):
        raise BadText()
    front, dates_also = split_dates(value, " also ")
    word, dates_not = split_dates(front, " not ")
    expression = (read_base(calendar, word), dates_not, dates_also)
    if not dates_fit(calendar, expression):
        raise BadText()
    return expressed(calendar, expression)
