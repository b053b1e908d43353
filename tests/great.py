"""Plans at the bounds (24 trains, 16 stations, 200 calls), and a watch that tells a slow answer."""

from contextlib import contextmanager
from time import perf_counter

from tests.drawn import NAMES, drawn_plan, plan_of

# What a reader would wait for; the answers take a small part of it.
SECONDS = 10


@contextmanager
def in_time(case, *told):
    """Fails if the block takes longer than a reader would wait."""
    begin = perf_counter()
    yield
    case.assertLess(perf_counter() - begin, SECONDS, told)


def rounds():
    """Trains that run around all stations, one behind the other: few rings, each with 17 gaps or more."""
    around = NAMES + NAMES[:1]
    rows = [tuple((name, 100 * k + 2 * place) for place, name in enumerate(around)) for k in range(11)]
    return plan_of(*rows, *[((NAMES[k % 16], 2000 + k),) for k in range(13)])


def crossings():
    """Four times two trains that change their order between two stations, far from each other: rings of 22 gaps."""
    rows = []
    for k in range(4):
        begin = 700 * k
        ways = [tuple((name, begin + 100 + place) for place, name in enumerate(names))
                for names in (NAMES[2:9], NAMES[9:16])]
        rows += [((NAMES[0], begin),) + ways[0] + ((NAMES[1], begin + 600),)]
        rows += [((NAMES[0], begin + 50),) + ways[1] + ((NAMES[1], begin + 500),)]
        rows += [((NAMES[0], begin + 10 + place),) for place in range(2)]
        rows += [((NAMES[1], begin + 510 + place),) for place in range(2)]
    return plan_of(*rows)


def one_way():
    """Trains along one line, none of which overtakes another: there is no ring at all."""
    return plan_of(*[tuple((NAMES[place + k % 8], 60 * k + 7 * place) for place in range(8)) for k in range(24)])


def delayed():
    """Trains along one line, three of which are overtaken."""
    rows = [[(NAMES[place], 60 * k + 7 * place) for place in range(8)] for k in range(24)]
    for k, place in ((5, 3), (12, 1), (20, 6)):
        rows[k][place:] = [(name, minute + 61) for name, minute in rows[k][place:]]
    return plan_of(*[tuple(row) for row in rows])


def shuttles():
    """Trains there and back on one line."""
    names = NAMES[:8]
    return plan_of(*[tuple(zip(names if k % 2 else names[::-1], range(40 * k, 40 * k + 64, 8))) for k in range(24)])


def one_station():
    """All calls at one station, many at one minute."""
    return plan_of(*[tuple((NAMES[0], minute) for minute in range(9 if k < 8 else 8)) for k in range(24)])


GREAT_PLANS = {
    "drawn": drawn_plan(1, 24, 16, 200, 1440),
    "drawn dense": drawn_plan(2, 24, 16, 200, 200),
    "drawn without calls again": drawn_plan(3, 24, 16, 200, 2880, again=False),
    "rounds": rounds(),
    "crossings": crossings(),
    "one way": one_way(),
    "delayed": delayed(),
    "shuttles": shuttles(),
    "one station": one_station(),
}


def great_asks():
    """Each great plan under its name, with each price and each most."""
    return [(name, plan, price, most) for name, plan in GREAT_PLANS.items() for price in (1, 2, 3) for most in range(4)]
