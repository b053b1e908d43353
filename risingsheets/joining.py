"""Plans made of other plans: turned, moved, put together, and parts of them."""

from risingsheets.bounds import MAX_STATIONS
from risingsheets.errors import Unfit
from risingsheets.plans import LETTERS, calls_at, plan_error, stations_of


def letters_of_number(number):
    """The decimal figures of a number, each as a letter."""
    return "".join([LETTERS[int(figure)] for figure in str(number)])


def can_be_turned(plan):
    """Whether all trains have the same days, no station has two calls at one minute, and trains are few enough."""
    trains = plan[1]
    if len(trains) > MAX_STATIONS or any([train[1] != trains[0][1] for train in trains]):
        return False
    for name in stations_of(plan):
        minutes = [minute for minute, _, _ in calls_at(plan, name)]
        if any([minute == later for minute, later in zip(minutes, minutes[1:])]):
            return False
    return True


def turned_plan(plan):
    """The plan whose trains are the stations of this one; Unfit if it can't be turned."""
    if not can_be_turned(plan):
        raise Unfit()
    calendar, trains = plan
    told = []
    for place, name in enumerate(stations_of(plan)):
        calls = tuple([(letters_of_number(number), minute) for minute, number, _ in calls_at(plan, name)])
        told.append((place + 1, trains[0][1], calls))
    return (calendar, tuple(told))


def turned_cuts(plan, cuts):
    """The cuts of the turned plan that belong to these; Unfit if the plan can't be turned."""
    if not can_be_turned(plan):
        raise Unfit()
    stations = stations_of(plan)
    told = []
    for kind, name, gap in cuts:
        if kind == "station":
            told.append(("train", stations.index(name) + 1, gap))
        else:
            told.append(("station", letters_of_number(name), gap))
    return tuple(sorted(told))


def plan_or_unfit(calendar, trains):
    """The plan of these trains, in order; Unfit if it is none."""
    plan = (calendar, tuple(sorted(trains)))
    if plan_error(plan) is not None:
        raise Unfit()
    return plan


def moved(plan, by):
    """The plan whose minutes are so much greater; Unfit if one of them would be none."""
    calendar, trains = plan
    later = [(number, days, tuple([(name, minute + by) for name, minute in calls])) for number, days, calls in trains]
    return plan_or_unfit(calendar, later)


def together(plan, other):
    """The plan of all trains of both; Unfit if calendars differ, a number is in both, or there is too much of it."""
    if plan[0] != other[0]:
        raise Unfit()
    return plan_or_unfit(plan[0], plan[1] + other[1])


def left_calls(plan, stays):
    """The plan of the calls of which stays, a function of a call, tells that they are left."""
    calendar, trains = plan
    told = []
    for number, days, calls in trains:
        left = tuple([call for call in calls if stays(call)])
        if left != ():
            told.append((number, days, left))
    return (calendar, tuple(told))


def only_trains(plan, numbers):
    """The plan of the trains with these numbers."""
    calendar, trains = plan
    return (calendar, tuple([train for train in trains if train[0] in numbers]))


def only_stations(plan, names):
    """The plan of the calls at the stations with these names."""
    return left_calls(plan, lambda call: call[0] in names)


def ahead_of(plan, minute):
    """The plan of the calls at lesser minutes than this one."""
    return left_calls(plan, lambda call: call[1] < minute)


def from_on(plan, minute):
    """The plan of the calls at this minute and at greater ones."""
    return left_calls(plan, lambda call: call[1] >= minute)
