"""Editions: sheets gathered in groups and cut to pages, and the texts in which they are printed."""

from risingsheets.basics import is_tuple_of, is_within
from risingsheets.bounds import MAX_HIGH, MAX_WIDE
from risingsheets.clocks import clock_text
from risingsheets.daytexts import days_text
from risingsheets.gathering import SINGLE, gathering_error, unfolded
from risingsheets.paging import paging_error
from risingsheets.plans import LETTERS
from risingsheets.plantexts import calendar_text
from risingsheets.sheets import cells, sheet_error

LEAST_WIDE = 3
HEAD_SIGNS = 17
CELL_SIGNS = 8
NO_CALL = "."


def is_size(value):
    """Whether value is a pair of how many columns and how many rows find room on a page."""
    return is_tuple_of(value, 2) and is_within(value[0], LEAST_WIDE, MAX_WIDE) and is_within(value[1], 1, MAX_HIGH)


def edition_error(value):
    """None for an edition, for any other value the first thing that is wrong with it."""
    if not is_tuple_of(value, 4):
        return "form"
    sheet, gathering, size, paging = value
    wrong_sheet = sheet_error(sheet)
    if wrong_sheet is not None:
        return ("sheet", wrong_sheet)
    wrong_gathering = gathering_error(sheet, gathering)
    if wrong_gathering is not None:
        return ("gathering", wrong_gathering)
    if not is_size(size):
        return "size"
    wrong_paging = paging_error(sheet, gathering, size, paging)
    if wrong_paging is not None:
        return ("paging", wrong_paging)
    return None


def letters_of(sheet):
    """The letter of each of the unlike days, in the order in which the columns bring them."""
    plan, _, _, columns = sheet
    running = {number: days for number, days, _ in plan[1]}
    letters = {}
    for number, _ in columns:
        if running[number] not in letters:
            letters[running[number]] = LETTERS[len(letters)]
    return letters


def head_label(cuts, kind, head):
    """The name or number of a head, and the number of its part if its thread has a cut."""
    name, first = head
    gaps = [gap for word, other, gap in cuts if word == kind and other == name]
    if len(gaps) == 0:
        return str(name)
    ahead_of_it = [gap for gap in gaps if gap <= first]
    return f"{name}/{1 + len(ahead_of_it)}"


def step_label(size):
    """What stands for the trains of a group's step column."""
    return "every" if size == 1 else f"every{size}"


def column_texts(sheet):
    """For each column of the sheet its texts: for the line of trains, for that of days, and for each row."""
    plan, cuts, _, columns = sheet
    running = {number: days for number, days, _ in plan[1]}
    letters = letters_of(sheet)
    rows = cells(sheet)
    told = []
    for place, head in enumerate(columns):
        minutes = [row[place] for row in rows]
        texts = [NO_CALL if minute is None else clock_text(minute) for minute in minutes]
        told.append([head_label(cuts, "train", head), letters[running[head[0]]]] + texts)
    return told


def printed_groups(sheet, gathering):
    """For each group the texts of its printed columns."""
    texts = column_texts(sheet)
    told = []
    for group, places in zip(gathering, unfolded(sheet, gathering)):
        block = [texts[place] for place in places]
        if group != SINGLE:
            size, _, step = group
            between = [step_label(size), str(step)] + [NO_CALL] * len(sheet[2])
            block = block[:size] + [between] + block[-size:]
        told.append(block)
    return told


def strip_lines(heads, block):
    """The lines that stand beside one another in these printed columns, behind the texts of their heads."""
    lines = []
    for place, head in enumerate(heads):
        told = "".join([texts[place].rjust(CELL_SIGNS) for texts in block])
        lines.append(head.ljust(HEAD_SIGNS) + told)
    return lines


def page_lines(edition):
    """The lines of all pages."""
    sheet, gathering, _, (across, down) = edition
    heads = ["train", "days"] + [head_label(sheet[1], "station", head) for head in sheet[2]]
    groups = printed_groups(sheet, gathering)
    strips = []
    for begin, end in zip((0,) + across, across):
        strips.append(strip_lines(heads, [texts for block in groups[begin:end] for texts in block]))
    lines = []
    for high, (begin, end) in enumerate(zip((0,) + down, down), start=1):
        for wide, strip in enumerate(strips, start=1):
            lines.append(f"page {high} {wide}")
            lines.extend(strip[:2] + strip[2 + begin:2 + end])
    return lines


def edition_text(edition):
    """The text of an edition."""
    sheet, _, (wide, high), _ = edition
    calendar = sheet[0][0]
    lines = [f"risingsheets {wide} {high}", calendar_text(calendar)]
    for days, letter in letters_of(sheet).items():
        lines.append(f"{letter} {days_text(calendar, days)}")
    return "\n".join(lines + page_lines(edition))
