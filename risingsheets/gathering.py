"""Columns at even steps, gathered in groups that are printed as a few columns."""

from risingsheets.basics import is_integer, is_tuple_of, is_within
from risingsheets.bounds import MAX_BLOCK
from risingsheets.plans import train_of
from risingsheets.prices import least_row
from risingsheets.sheets import cells

SINGLE = (1, 1, 0)
LEAST_TIMES = 3
NO_GROUP = (0, 0)


def columns_of(sheet):
    """For each column the number and the days of its train, and its cells; None if the train has a cut."""
    plan, cuts, _, columns = sheet
    parted = {name: True for kind, name, _ in cuts if kind == "train"}
    rows = cells(sheet)
    told = []
    for place, (number, _) in enumerate(columns):
        if number in parted:
            told.append(None)
        else:
            told.append((number, train_of(plan, number)[1], tuple([row[place] for row in rows])))
    return told


def first_minute(column):
    """The minute of the first call in a column."""
    return min([minute for minute in column[2] if minute is not None])


def is_later(column, other, step, difference):
    """Whether other is as the column, but its minutes are by a step and its number by a difference greater."""
    if column is None or other is None:
        return False
    number, days, minutes = column
    later = tuple([None if minute is None else minute + step for minute in minutes])
    return other == (number + difference, days, later)


def group_on(columns, place, size):
    """What group_at tells of the columns that columns_of told."""
    if place + LEAST_TIMES * size > len(columns) or columns[place] is None or columns[place + size] is None:
        return NO_GROUP
    step = first_minute(columns[place + size]) - first_minute(columns[place])
    difference = columns[place + size][0] - columns[place][0]
    if step < 1 or difference < 1:
        return NO_GROUP
    many = size
    while place + many < len(columns):
        block = many // size
        pattern = columns[place + many - block * size]
        if not is_later(pattern, columns[place + many], block * step, block * difference):
            break
        many += 1
    times = many // size
    return (times, step) if times >= LEAST_TIMES else NO_GROUP


def group_at(sheet, place, size):
    """The times and the step of the greatest group of this size from a column on; (0, 0) if there is none."""
    return group_on(columns_of(sheet), place, size)


def is_triple(value):
    """Whether value is a triple of integers."""
    return is_tuple_of(value, 3) and all([is_integer(item) for item in value])


def stands(columns, place, group):
    """Whether a triple of integers is a group that stands on the columns from this place on."""
    if place >= len(columns):
        return False
    if group == SINGLE:
        return True
    size, times, step = group
    if not is_within(size, 1, MAX_BLOCK):
        return False
    most, each = group_on(columns, place, size)
    return LEAST_TIMES <= times <= most and step == each


def gathering_error(sheet, value):
    """None for a gathering of the sheet, otherwise the first thing that is wrong with value."""
    if not isinstance(value, tuple) or not all([is_triple(item) for item in value]):
        return "form"
    columns = columns_of(sheet)
    place = 0
    for index, group in enumerate(value):
        if not stands(columns, place, group):
            return ("group", index)
        place += group[0] * group[1]
    return None if place == len(columns) else "end"


def width_of(group):
    """How many printed columns a group has: its first block, the step, and its last block."""
    return 1 if group == SINGLE else 2 * group[0] + 1


def width(gathering):
    """How many printed columns the groups have together."""
    return sum([width_of(group) for group in gathering])


def unfolded(sheet, gathering):
    """For each group the places of the columns on which it stands."""
    told = []
    place = 0
    for size, times, _ in gathering:
        told.append(tuple(range(place, place + size * times)))
        place += size * times
    return tuple(told)


def groups_on(columns):
    """For each begin and end of columns the narrowest group that stands just there."""
    found = {}
    for place in range(len(columns)):
        found[(place, place + 1)] = SINGLE
        for size in range(1, MAX_BLOCK + 1):
            most, step = group_on(columns, place, size)
            for times in range(LEAST_TIMES, most + 1):
                # Narrower ones come first.
                found.setdefault((place, place + size * times), (size, times, step))
    return found


def least_gathering(sheet):
    """A gathering of least width, and prices that show that it is."""
    columns = columns_of(sheet)
    groups = groups_on(columns)
    stretches = [(begin, end, width_of(group)) for (begin, end), group in groups.items()]
    ends, _, prices = least_row(stretches, len(columns))
    gathering = tuple([groups[(begin, end)] for begin, end in zip((0,) + ends, ends)])
    return (gathering, prices)


def gathered(sheet):
    """A gathering of least width."""
    return least_gathering(sheet)[0]


def gathering_prices(sheet):
    """Prices that show that no gathering has less width."""
    return least_gathering(sheet)[1]
