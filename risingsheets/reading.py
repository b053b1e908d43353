"""Reads the texts of editions: makes the edition that a text would tell, and asks whether it has just this text."""

from risingsheets.basics import read_number
from risingsheets.bounds import MAX_BLOCK, MAX_CALLS, MAX_HIGH, MAX_MINUTE, MAX_NUMBER, MAX_TRAINS, MAX_WIDE
from risingsheets.clocks import read_clock
from risingsheets.daytexts import read_days
from risingsheets.errors import BadText, Unfit
from risingsheets.gathering import LEAST_TIMES, SINGLE
from risingsheets.plantexts import read_calendar
from risingsheets.printing import CELL_SIGNS, HEAD_SIGNS, NO_CALL, edition_error, edition_text, step_label
from risingsheets.sheets import plan_of_cells


def read_size(line):
    """The size that the first line tells."""
    words = line.split(" ")
    if len(words) != 3:
        raise BadText()
    return (read_number(words[1], MAX_WIDE), read_number(words[2], MAX_HIGH))


def read_letters(calendar, lines):
    """The days that each letter tells."""
    letters = {}
    for line in lines:
        letter, _, text = line.partition(" ")
        letters[letter] = read_days(calendar, text)
    return letters


def split_pages(lines):
    """The lines ahead of the first page, and the lines of each page."""
    front = []
    pages = []
    for line in lines:
        # Stations may be called page, but the lines of rows are longer than their heads alone.
        if line.startswith("page ") and len(line) < HEAD_SIGNS:
            pages.append([line])
        elif len(pages) > 0:
            pages[-1].append(line)
        else:
            front.append(line)
    return (front, pages)


def bands_of(pages):
    """The pages that stand beside one another, which have the same rows."""
    bands = []
    for page in pages:
        if page[0].endswith(" 1"):
            bands.append([])
        if len(bands) == 0:
            raise BadText()
        bands[-1].append(page)
    return bands


def cells_in(line):
    """The texts of the cells in a line."""
    if (len(line) - HEAD_SIGNS) % CELL_SIGNS != 0:
        raise BadText()
    return [line[place:place + CELL_SIGNS].lstrip(" ") for place in range(HEAD_SIGNS, len(line), CELL_SIGNS)]


def lines_across(band):
    """The lines that go on from page to page of a band: each a text for its head, and its cells."""
    many = len(band[0])
    if many < 3 or any([len(page) != many for page in band]):
        raise BadText()
    told = []
    for place in range(1, many):
        head = band[0][place][:HEAD_SIGNS].rstrip(" ")
        told.append((head, [text for page in band for text in cells_in(page[place])]))
    return told


def read_label(text, most):
    """What stands ahead of the stroke, and the number of the part behind it, 1 if there is no stroke."""
    name, stroke, figures = text.partition("/")
    return (name, 1 if stroke == "" else read_number(figures, most))


def read_column(texts, letters):
    """The number, the part, the days and the minutes that the texts of a column of the sheet tell."""
    figures, part = read_label(texts[0], MAX_CALLS)
    if texts[1] not in letters:
        raise BadText()
    minutes = [None if text == NO_CALL else read_clock(text) for text in texts[2:]]
    return (read_number(figures, MAX_NUMBER), part, letters[texts[1]], minutes)


def times_between(column, other, step):
    """How many blocks there are if one has the column and the last one has the other in its place."""
    pairs = [(minute, later) for minute, later in zip(column[3], other[3]) if minute is not None]
    if step == 0 or len(pairs) == 0 or pairs[0][1] is None:
        raise BadText()
    steps, left = divmod(pairs[0][1] - pairs[0][0], step)
    if left != 0 or not LEAST_TIMES <= steps + 1 <= MAX_TRAINS:
        raise BadText()
    return steps + 1


def later_column(column, difference, step):
    """The column whose number and minutes are so much greater."""
    number, part, days, minutes = column
    later = [None if minute is None else minute + step for minute in minutes]
    return (number + difference, part, days, later)


def read_group(block, letters):
    """The group that is printed as these columns, and all columns of the sheet on which it stands."""
    if len(block) == 1:
        return (SINGLE, [read_column(block[0], letters)])
    size = len(block) // 2
    first = [read_column(texts, letters) for texts in block[:size]]
    last = read_column(block[size + 1], letters)
    step = read_number(block[size][1], MAX_MINUTE)
    times = times_between(first[0], last, step)
    difference, left = divmod(last[0] - first[0][0], times - 1)
    if left != 0:
        raise BadText()
    columns = [later_column(column, r * difference, r * step) for r in range(times) for column in first]
    return ((size, times, step), columns)


def printed_at(trains, place):
    """How many of the texts of a line of trains belong to the group that begins at this place."""
    for size in range(1, MAX_BLOCK + 1):
        if place + size < len(trains) and trains[place + size] == step_label(size):
            return 2 * size + 1
    return 1


def read_groups(columns, letters):
    """The groups that are printed as the columns of a page, and all columns of the sheet on which they stand."""
    trains = [texts[0] for texts in columns]
    groups = []
    told = []
    place = 0
    while place < len(trains):
        many = printed_at(trains, place)
        if place + many > len(trains):
            raise BadText()
        group, block = read_group(columns[place:place + many], letters)
        groups.append(group)
        told.extend(block)
        place += many
    return (groups, told)


def ends_of(sizes):
    """The ends of parts of these sizes that stand one behind another."""
    return tuple([sum(sizes[:place + 1]) for place in range(len(sizes))])


def heads_of(labels, counts):
    """The heads with these labels, each a name or number and a part; counts tells how many calls each part has."""
    told = []
    for name, part in labels:
        told.append((name, sum([many for (other, further), many in zip(labels, counts)
                                if other == name and further < part])))
    return tuple(told)


def sheet_of(calendar, labels, columns):
    """The sheet whose rows have these labels and whose columns tell number, part, days and minutes."""
    names = tuple([name for name, _ in labels])
    numbers = tuple([number for number, _, _, _ in columns])
    days = {number: running for number, _, running, _ in columns}
    rows = [tuple([minutes[place] for _, _, _, minutes in columns]) for place in range(len(labels))]
    try:
        plan = plan_of_cells(calendar, tuple(sorted(days.items())), names, numbers, tuple(rows))
    except Unfit:
        raise BadText() from None
    across = [len([minute for minute in row if minute is not None]) for row in rows]
    down = [len([minute for minute in minutes if minute is not None]) for _, _, _, minutes in columns]
    # A row or a column without a call is that of no head; without such ones there are no more than calls.
    if 0 in across or 0 in down:
        raise BadText()
    row_heads = heads_of(labels, across)
    column_heads = heads_of([(number, part) for number, part, _, _ in columns], down)
    cuts = [("station", name, first) for name, first in row_heads if first > 0]
    cuts = cuts + [("train", number, first) for number, first in column_heads if first > 0]
    return (plan, tuple(sorted(cuts)), row_heads, column_heads)


def read_columns(bands, lines, letters):
    """The groups of all pages, the columns of the sheet on which they stand, and the ends across."""
    trains, days, *rows = [texts for _, texts in lines]
    if any([len(texts) != len(trains) for texts in [days] + rows]):
        raise BadText()
    groups = []
    columns = []
    ends = []
    begin = 0
    for page in bands[0]:
        end = begin + len(cells_in(page[1]))
        printed = [[texts[place] for texts in [trains, days] + rows] for place in range(begin, end)]
        further, block = read_groups(printed, letters)
        groups.extend(further)
        columns.extend(block)
        ends.append(len(groups))
        begin = end
    return (tuple(groups), columns, tuple(ends))


def told_edition(lines):
    """The edition of which alone the lines can be the text; BadText if there can be none."""
    front, pages = split_pages(lines)
    if len(front) < 2:
        raise BadText()
    size = read_size(front[0])
    calendar = read_calendar(front[1])
    letters = read_letters(calendar, front[2:])
    bands = bands_of(pages)
    if len(bands) == 0:
        return (sheet_of(calendar, [], []), (), size, ((), ()))
    parts = [lines_across(band) for band in bands]
    rows = [line for part in parts for line in part[2:]]
    gathering, columns, across = read_columns(bands, parts[0][:2] + rows, letters)
    labels = [read_label(head, MAX_CALLS) for head, _ in rows]
    sheet = sheet_of(calendar, labels, columns)
    return (sheet, gathering, size, (across, ends_of([len(part) - 2 for part in parts])))


def read_edition(value):
    """The edition of which value is the text; BadText if there is none."""
    if not isinstance(value, str):
        raise BadText()
    edition = told_edition(value.split("\n"))
    if edition_error(edition) is not None or edition_text(edition) != value:
        raise BadText()
    return edition
