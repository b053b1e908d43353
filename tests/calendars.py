"""Calendars for the tests of part B, and expressions and their texts made in another way than the package's."""

from datetime import date, timedelta
from itertools import combinations

WORDS = ("mo", "tu", "we", "th", "fr", "sa", "su", "hol")
MONDAY = date(2024, 1, 1)


def holidays_for(length):
    """No holidays, one at each end, both ends, all days, each told once."""
    told = [(), (0,), (length - 1,), tuple(sorted({0, length - 1})), tuple(range(length))]
    return [holidays for place, holidays in enumerate(told) if holidays not in told[:place]]


def calendars(*lengths):
    """Calendars of these lengths that begin on each weekday."""
    return [(first, length, holidays) for first in range(7) for length in lengths for holidays in holidays_for(length)]


ALL = calendars(1, 6, 7, 8, 400)

# Small enough for all sets of days beside all 256 bases.
TINY = [
    (0, 1, ()), (6, 1, (0,)), (3, 4, ()), (5, 4, (1,)), (0, 3, (0, 1, 2)), (6, 5, (0, 4)), (2, 5, (3,)),
    (3, 8, ()), (4, 9, (1, 7, 8)),
]


def tuples_of(items):
    """All ascending tuples of the items, which ascend."""
    return [chosen for many in range(len(items) + 1) for chosen in combinations(items, many)]


BASES = tuples_of(range(8))


def class_in(calendar, day):
    """The class of a day, counted along a real calendar."""
    first, _, holidays = calendar
    return 7 if day in holidays else (MONDAY + timedelta(first + day)).weekday()


def standing_in(calendar):
    """The classes that have days."""
    return tuple(sorted({class_in(calendar, day) for day in range(calendar[1])}))


def expression_with(calendar, base, days):
    """The one expression that has this base and these days."""
    based = {day for day in range(calendar[1]) if class_in(calendar, day) in base}
    return (base, tuple(sorted(based - set(days))), tuple(sorted(set(days) - based)))


def text_with(calendar, expression):
    """The text of an expression."""
    base, dates_not, dates_also = expression
    standing = standing_in(calendar)
    if set(standing) <= set(base):
        text = "daily"
    else:
        text = "+".join(WORDS[kind] for kind in standing if kind in base) or "never"
    for word, dates in (("not", dates_not), ("also", dates_also)):
        if dates:
            text += " " + word + " " + ",".join(map(str, dates))
    return text


def texts_with(calendar, days):
    """The texts of all expressions that have these days, each once."""
    standing = standing_in(calendar)
    return [text_with(calendar, expression_with(calendar, base, days)) for base in tuples_of(standing)]


def changed(text, signs):
    """All texts that have one sign less, doubled, changed or more than this one, and two neighbours exchanged."""
    told = set()
    for place in range(len(text) + 1):
        ahead, behind = text[:place], text[place:]
        told.update(ahead + sign + behind for sign in signs)
        told.update(ahead + sign + behind[1:] for sign in signs)
        told.update((ahead + behind[1:], ahead + behind[:1] + behind, ahead + behind[1:2] + behind[:1] + behind[2:]))
    return sorted(told - {text})
