"""Days of a calendar, their classes, and the expressions that tell days."""

from risingsheets.plans import are_days

HOLIDAY = 7
CLASSES = 8


def classes_of(calendar):
    """The classes of all days of the calendar, in their order."""
    first, length, holidays = calendar
    classes = [(first + day) % 7 for day in range(length)]
    for day in holidays:
        classes[day] = HOLIDAY
    return classes


def class_of(calendar, day):
    """The class of a day: 7 for a holiday, otherwise its weekday."""
    return classes_of(calendar)[day]


def days_of_class(calendar, kind):
    """The days of a class, ascending."""
    return tuple([day for day, each in enumerate(classes_of(calendar)) if each == kind])


def classes_with_days(calendar):
    """The classes that have days, ascending."""
    classes = classes_of(calendar)
    return tuple([kind for kind in range(CLASSES) if kind in classes])


def plain_expression(calendar, days):
    """The expression of days whose base has the classes of which more days are there than are not."""
    chosen = set(days)
    classes = classes_of(calendar)
    lead = [0] * CLASSES
    for day, kind in enumerate(classes):
        lead[kind] += 1 if day in chosen else -1
    base = tuple([kind for kind in range(CLASSES) if lead[kind] > 0])
    dates_not = tuple([day for day, kind in enumerate(classes) if kind in base and day not in chosen])
    dates_also = tuple([day for day in days if classes[day] not in base])
    return (base, dates_not, dates_also)


def expressed(calendar, expression):
    """The days of an expression, ascending."""
    base, dates_not, dates_also = expression
    based = [day for day, kind in enumerate(classes_of(calendar)) if kind in base and day not in dates_not]
    return tuple(sorted(based + list(dates_also)))


def dates_fit(calendar, expression):
    """Whether both tuples of dates ascend and stand on their sides of the base, a tuple of classes."""
    base, dates_not, dates_also = expression
    length = calendar[1]
    if not are_days(dates_not, length) or not are_days(dates_also, length):
        return False
    classes = classes_of(calendar)
    if any([classes[day] in base for day in dates_also]):
        return False
    return all([classes[day] in base for day in dates_not])
