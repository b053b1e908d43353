"""Plans: a calendar and the trains that run in it."""

from risingsheets.basics import ascends, is_tuple_of, is_within
from risingsheets.bounds import MAX_CALLS, MAX_MINUTE, MAX_NAME, MAX_NUMBER, MAX_SPAN, MAX_STATIONS, MAX_TRAINS
from risingsheets.errors import NoTrain

LETTERS = "abcdefghijklmnopqrstuvwxyz"


def is_name(value):
    """Whether value is a name of a station."""
    if not isinstance(value, str) or not 1 <= len(value) <= MAX_NAME:
        return False
    return all([sign in LETTERS for sign in value])


def is_call(value):
    """Whether value is a pair of a name and a minute."""
    return is_tuple_of(value, 2) and is_name(value[0]) and is_within(value[1], 0, MAX_MINUTE)


def are_days(value, length):
    """Whether value is an ascending tuple of days of a calendar of this length, perhaps ()."""
    if not isinstance(value, tuple):
        return False
    # The kinds come first: what is not a number can't be compared with one.
    return all([is_within(day, 0, length - 1) for day in value]) and ascends(value)


def is_calendar(value):
    """Whether value is a triple of the first weekday, the length and the holidays."""
    if not is_tuple_of(value, 3):
        return False
    first, length, holidays = value
    return is_within(first, 0, 6) and is_within(length, 1, MAX_SPAN) and are_days(holidays, length)


def calls_error(calls, place):
    """The first thing wrong with the calls of the train at this place, None if they are right."""
    if not isinstance(calls, tuple) or len(calls) == 0:
        return ("calls", place)
    for further, call in enumerate(calls):
        if not is_call(call):
            return ("call", place, further)
    for further in range(1, len(calls)):
        if calls[further][1] <= calls[further - 1][1]:
            return ("rise", place, further)
    return None


def train_error(trains, place, length):
    """The first thing wrong with the train at this place, None if it is right, as those ahead of it are."""
    train = trains[place]
    if not is_tuple_of(train, 3):
        return ("train", place)
    number, days, calls = train
    least = trains[place - 1][0] + 1 if place > 0 else 1
    if not is_within(number, least, MAX_NUMBER):
        return ("number", place)
    if not are_days(days, length) or len(days) == 0:
        return ("days", place)
    return calls_error(calls, place)


def count_error(trains):
    """What there is too much of in trains that are right one by one, None if nothing is."""
    names = [call[0] for train in trains for call in train[2]]
    if len(set(names)) > MAX_STATIONS:
        return "stations"
    if len(names) > MAX_CALLS:
        return "many"
    return None


def plan_error(value):
    """None for a plan, for any other value the first thing that is wrong with it."""
    if not is_tuple_of(value, 2):
        return "form"
    calendar, trains = value
    if not is_calendar(calendar):
        return "calendar"
    if not isinstance(trains, tuple) or len(trains) > MAX_TRAINS:
        return "trains"
    for place in range(len(trains)):
        error = train_error(trains, place, calendar[1])
        if error is not None:
            return error
    return count_error(trains)


def stations_of(plan):
    """The names of all stations, ascending."""
    return tuple(sorted({call[0] for train in plan[1] for call in train[2]}))


def calls_at(plan, name):
    """The (minute, number, place) of all calls at a station, ascending."""
    found = []
    for number, _, calls in plan[1]:
        for place, (station, minute) in enumerate(calls):
            if station == name:
                found.append((minute, number, place))
    return tuple(sorted(found))


def train_of(plan, number):
    """The train with this number; NoTrain if there is none."""
    for train in plan[1]:
        if train[0] == number:
            return train
    raise NoTrain(number)


def minute_of(plan, mark):
    """The minute of the call with this mark."""
    number, place = mark
    return train_of(plan, number)[2][place][1]
