"""Asks of a printed text: which trains go from one station to another."""

from risingsheets.errors import NoStation, Unfit
from risingsheets.plans import stations_of
from risingsheets.reading import read_edition


def ways_along(calls, start, goal):
    """For each call of a train at start behind which it calls at goal, both minutes."""
    found = []
    for place, (name, minute) in enumerate(calls):
        arrivals = [later for further, later in calls[place + 1:] if further == goal]
        if name == start and len(arrivals) > 0:
            found.append((minute, arrivals[0]))
    return found


def trains_from(text, start, goal, day):
    """The (minute, there, number) of all trains of a day from start to goal, ascending, as a printed text tells."""
    plan = read_edition(text)[0][0]
    stations = stations_of(plan)
    for name in (start, goal):
        if name not in stations:
            raise NoStation(name)
    if start == goal:
        raise Unfit()
    found = []
    for number, days, calls in plan[1]:
        if day in days:
            found.extend([(minute, there, number) for minute, there in ways_along(calls, start, goal)])
    return tuple(sorted(found))


def following_train(text, start, goal, day, minute):
    """The first of trains_from that leaves at this minute or behind it, None if there is none."""
    for told in trains_from(text, start, goal, day):
        if told[0] >= minute:
            return told
    return None
