"""Plans as texts: a line for the calendar, and one for each train."""

from risingsheets.basics import read_number
from risingsheets.bounds import MAX_NUMBER, MAX_SPAN
from risingsheets.clocks import clock_text, read_clock
from risingsheets.daytexts import dates_text, days_text, read_days, split_dates
from risingsheets.errors import BadPlan, BadText
from risingsheets.plans import is_calendar, is_name, plan_error


def calendar_text(calendar):
    """The line of a calendar."""
    first, length, holidays = calendar
    if holidays == ():
        return f"calendar {first} {length}"
    return f"calendar {first} {length} holidays {dates_text(holidays)}"


def train_text(calendar, train):
    """The line of a train, its days told by the plain expression."""
    number, days, calls = train
    called = ", ".join([f"{name} {clock_text(minute)}" for name, minute in calls])
    return f"{number} {days_text(calendar, days)}: {called}"


def plan_text(plan):
    """The plan text in which each train's days are told by the plain expression."""
    calendar, trains = plan
    lines = [calendar_text(calendar)] + [train_text(calendar, train) for train in trains]
    return "\n".join(lines)


def read_calendar(line):
    """The calendar that a line tells; BadText if it tells none."""
    front, holidays = split_dates(line, " holidays ")
    words = front.split(" ")
    if len(words) != 3 or words[0] != "calendar":
        raise BadText()
    calendar = (read_number(words[1], 6), read_number(words[2], MAX_SPAN), holidays)
    if not is_calendar(calendar):
        raise BadText()
    return calendar


def read_call(text):
    """The call that text tells; BadText if it tells none."""
    name, _, clock = text.partition(" ")
    if not is_name(name):
        raise BadText()
    return (name, read_clock(clock))


def read_train(calendar, line):
    """What a line tells as number, days and calls; BadText if it is no line of a train."""
    front, _, called = line.partition(": ")
    figures, _, days = front.partition(" ")
    number = read_number(figures, MAX_NUMBER)
    if number == 0:
        raise BadText()
    calls = tuple([read_call(text) for text in called.split(", ")])
    return (number, read_days(calendar, days), calls)


def read_plan(value):
    """The plan that value tells; BadText if it is no plan text, BadPlan if what it tells is no plan."""
    if not isinstance(value, str):
        raise BadText()
    first, *others = value.split("\n")
    calendar = read_calendar(first)
    plan = (calendar, tuple([read_train(calendar, line) for line in others]))
    error = plan_error(plan)
    if error is not None:
        raise BadPlan(error)
    return plan
