"""Sheets cut to pages: no page too wide or too high, as few as can be, and few columns that run on."""

from risingsheets.basics import is_integer, is_tuple_of
from risingsheets.bounds import PAGE
from risingsheets.errors import TooWide
from risingsheets.gathering import width_of
from risingsheets.prices import least_row
from risingsheets.sheets import cells


def are_integers(value):
    """Whether value is a tuple of integers."""
    return isinstance(value, tuple) and all([is_integer(item) for item in value])


def ends_error(widths, room, ends):
    """The first place of the ends that is wrong, their number if columns or rows are left; None if all is right."""
    begin = 0
    for place, end in enumerate(ends):
        if not begin < end <= len(widths) or sum(widths[begin:end]) > room:
            return place
        begin = end
    return None if begin == len(widths) else len(ends)


def widths_of(gathering):
    """The width of each group."""
    return [width_of(group) for group in gathering]


def paging_error(sheet, gathering, size, value):
    """None for a paging, otherwise the first thing that is wrong with value."""
    if not is_tuple_of(value, 2) or not are_integers(value[0]) or not are_integers(value[1]):
        return "form"
    wide, high = size
    across = ends_error(widths_of(gathering), wide, value[0])
    if across is not None:
        return ("across", across)
    down = ends_error([1] * len(sheet[2]), high, value[1])
    if down is not None:
        return ("down", down)
    return None


def runs(sheet):
    """For each column that has calls the places of the first and of the last row in which it has them."""
    rows = cells(sheet)
    found = []
    for column in range(len(sheet[3])):
        called = [place for place, row in enumerate(rows) if row[column] is not None]
        found.append((called[0], called[-1]))
    return found


def run_over(spans, end):
    """How many of the columns have calls on both sides of an end; spans has their first and last rows."""
    return len([first for first, last in spans if first < end <= last])


def run_on(sheet, end):
    """How many columns have calls both in rows ahead of this end and in rows from it on."""
    return run_over(runs(sheet), end)


def page_stretches(widths, room, fees):
    """The stretches of things of these widths that find room on a page; fees has the cost for each end."""
    found = []
    for begin in range(len(widths)):
        taken = 0
        for end in range(begin + 1, len(widths) + 1):
            taken += widths[end - 1]
            if taken > room:
                break
            found.append((begin, end, fees[end]))
    return found


def least_pages(sheet, gathering, size):
    """What least_row tells of the ends across and of those down; TooWide if a group finds room on no page."""
    wide, high = size
    widths = widths_of(gathering)
    for place, each in enumerate(widths):
        if each > wide:
            raise TooWide(place)
    rows = len(sheet[2])
    spans = runs(sheet)
    across = page_stretches(widths, wide, [1] * (len(widths) + 1))
    down = page_stretches([1] * rows, high, [PAGE + run_over(spans, end) for end in range(rows + 1)])
    return (least_row(across, len(widths)), least_row(down, rows))


def best_paging(sheet, gathering, size):
    """A paging with the fewest ends that there are, and with the fewest columns that run on over those down."""
    across, down = least_pages(sheet, gathering, size)
    return (across[0], down[0])


def paging_prices(sheet, gathering, size):
    """Prices that show that no paging is better, for the ends across and for those down."""
    across, down = least_pages(sheet, gathering, size)
    return (across[2], down[2])
