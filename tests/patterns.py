"""Sheets with columns at even steps, drawn, and all gatherings of them told from the document's words."""

from itertools import product
from random import Random

from risingsheets.rings import ring_of
from risingsheets.sheets import told_sheet
from tests.drawn import CALENDAR
from tests.reference import head_with, marks_of, minute_at

EMPTY_SHEET = ((CALENDAR, ()), (), (), ())
SINGLE = (1, 1, 0)
STOPS = ("abel", "bron", "cole")


def sheet_of(numbers, begins, days=None, legs=None, cuts=()):
    """A sheet of a train for each number, which begins at a minute and takes some minutes to each further stop."""
    trains = []
    for place, (number, begin) in enumerate(zip(numbers, begins)):
        leg = legs[place] if legs else (10, 10)
        minutes = [begin] + [begin + sum(leg[:stop + 1]) for stop in range(len(leg))]
        trains.append((number, days[place] if days else (0, 1), tuple(zip(STOPS, minutes))))
    return told_sheet((CALENDAR, tuple(sorted(trains))), cuts)


def even_sheet(many, size=1, step=20, difference=1):
    """A sheet of so many columns whose blocks of this size are by a step and a difference greater, one by one."""
    numbers = [100 + place // size * size * difference + place % size * difference for place in range(many)]
    begins = [60 + place // size * step + place % size * 2 for place in range(many)]
    legs = [(10, 10 + place % size) for place in range(many)]
    return sheet_of(numbers, begins, legs=legs)


def drawn_sheet(seed, many):
    """A sheet of columns at even steps of which some are spoilt: another minute, number, leg, or other days."""
    drawn = Random(seed)
    size = drawn.randint(1, 4)
    step = drawn.choice([size, 6, 10]) + size
    numbers = [10 + 3 * place for place in range(many)]
    begins = [place // size * step + place % size for place in range(many)]
    legs = [drawn.choice([(200,), (200, 100)]) for _ in range(size)]
    legs = [legs[place % size] for place in range(many)]
    days = [(0, 1)] * many
    for place in range(many):
        fault = drawn.randrange(24)
        if fault == 0:
            numbers[place] += 1
        elif fault == 1:
            days[place] = (0, 2)
        elif fault == 2:
            legs[place] = legs[place][:1]
        elif fault == 3:
            begins[place] += 1 if place % size < size - 1 or step > size else 0
    trains = tuple((numbers[place], days[place], tuple(zip(STOPS, [begins[place]] + [
        begins[place] + sum(legs[place][:stop + 1]) for stop in range(len(legs[place]))]))) for place in range(many))
    plan = (CALENDAR, trains)
    cuts = tuple(("train", numbers[place], 1) for place in range(many) if drawn.randrange(20) == 0)
    if ring_of(plan, cuts) is not None:
        return drawn_sheet(seed + 1000, many)
    return told_sheet(plan, cuts)


def column_shown(sheet, place):
    """The number of a column's train, its days, and the minute of each row head of its calls; None if it is cut."""
    plan, cuts, _, columns = sheet
    number = columns[place][0]
    if [cut for cut in cuts if cut[:2] == ("train", number)]:
        return None
    days = [train[1] for train in plan[1] if train[0] == number][0]
    calls = {head_with(plan, cuts, "station", mark): minute_at(plan, mark)
             for mark in marks_of(plan) if mark[0] == number}
    return (number, days, calls)


def columns_shown(sheet):
    return [column_shown(sheet, place) for place in range(len(sheet[3]))]


def group_stands(shown, place, group):
    """Whether a group other than a single stands on the columns shown, by [F4]."""
    size, times, step = group
    columns = shown[place:place + size * times]
    if len(columns) < size * times or None in columns:
        return False
    difference = columns[size][0] - columns[0][0]
    if difference < 1 or step < 1:
        return False
    for r, j in product(range(times), range(size)):
        number, days, calls = columns[j]
        later = {head: minute + r * step for head, minute in calls.items()}
        if columns[r * size + j] != (number + r * difference, days, later):
            return False
    return True


def all_groups(shown):
    """For each place the groups that stand from there on, singles among them."""
    steps = {later - minute for one in shown if one for other in shown if other
             for minute in one[2].values() for later in other[2].values() if later > minute}
    found = []
    for place in range(len(shown)):
        groups = [SINGLE]
        for size, times in product(range(1, 5), range(3, len(shown) + 1)):
            if place + size * times <= len(shown):
                groups += [(size, times, step) for step in steps if group_stands(shown, place, (size, times, step))]
        found.append(groups)
    return found


def printed(group):
    """How many columns of a group are printed."""
    return 1 if group == SINGLE else group[0] + 1 + group[0]


def least_width(groups):
    """The least width of all gatherings, groups being what all_groups tells."""
    least = [0]
    for place in reversed(range(len(groups))):
        widths = [printed(group) + least[group[0] * group[1] - 1] for group in groups[place]]
        least = [min(widths)] + least
    return least[0]


def gatherings(groups, place=0):
    """All gatherings."""
    if place == len(groups):
        return [()]
    return [(group,) + rest for group in groups[place] for rest in gatherings(groups, place + group[0] * group[1])]
