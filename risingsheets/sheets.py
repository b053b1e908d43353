"""Sheets: the heads of a plan with its cuts, in orders in which no head stands behind one that it is ahead of."""

from risingsheets.basics import is_integer, is_tuple_of
from risingsheets.errors import BadCuts, HasRing, Unfit
from risingsheets.plans import plan_error
from risingsheets.rings import ring_of
from risingsheets.threads import ahead, cuts_error, heads, homes_of, order_of, parts_of, spots_of


def is_head(value):
    """Whether value is a pair of a string or an integer and of an integer."""
    if not is_tuple_of(value, 2):
        return False
    return (isinstance(value[0], str) or is_integer(value[0])) and is_integer(value[1])


def holds_all(value, wanted):
    """Whether value is a tuple of just the wanted heads, each once, in any order."""
    if not isinstance(value, tuple) or len(value) != len(wanted):
        return False
    # The kinds come first: True would be found where 1 is.
    if not all([is_head(item) for item in value]):
        return False
    return {head: True for head in value} == {head: True for head in wanted}


def order_error(plan, cuts, side, order):
    """The first head of an order that itself or a later one is ahead of, with that one; None if there is none."""
    before = {pair: True for pair in ahead(plan, cuts, side)}
    for place, head in enumerate(order):
        # This way the head itself comes first, then the later ones.
        for further in order[place:]:
            if (further, head) in before:
                return (head, further)
    return None


def heads_error(plan, cuts, rows, columns):
    """What sheet_error tells of the rows and the columns for a plan and its cuts."""
    row_heads, column_heads = heads(plan, cuts)
    if not holds_all(rows, row_heads):
        return "rows"
    if not holds_all(columns, column_heads):
        return "columns"
    turned_rows = order_error(plan, cuts, "rows", rows)
    if turned_rows is not None:
        return ("row",) + turned_rows
    turned_columns = order_error(plan, cuts, "columns", columns)
    if turned_columns is not None:
        return ("column",) + turned_columns
    return None


def sheet_error(value):
    """None for a sheet, for any other value the first thing that is wrong with it."""
    if not is_tuple_of(value, 4):
        return "form"
    plan, cuts, rows, columns = value
    wrong_plan = plan_error(plan)
    if wrong_plan is not None:
        return ("plan", wrong_plan)
    wrong_cuts = cuts_error(plan, cuts)
    if wrong_cuts is not None:
        return ("cuts", wrong_cuts)
    return heads_error(plan, cuts, rows, columns)


def told_sheet(plan, cuts):
    """The sheet in the told orders; BadCuts if cuts are none of the plan, HasRing if they let a ring stand."""
    error = cuts_error(plan, cuts)
    if error is not None:
        raise BadCuts(error)
    ring = ring_of(plan, cuts)
    if ring is not None:
        raise HasRing(ring)
    return (plan, cuts, order_of(plan, cuts, "rows"), order_of(plan, cuts, "columns"))


def cells(sheet):
    """The cells of each row: the minute of the call in each column, None where there is none."""
    plan, cuts, rows, columns = sheet
    spots = spots_of(plan)
    columns_of_marks = homes_of(plan, cuts, "train")
    row_parts = parts_of(plan, cuts, "station")
    told = []
    for row in rows:
        minutes = {columns_of_marks[mark]: spots[mark][2] for mark in row_parts[row]}
        told.append(tuple([minutes.get(column) for column in columns]))
    return tuple(told)


def plan_of_cells(calendar, days, names, numbers, minutes):
    """The plan that rows of cells tell; Unfit if it is no plan, or if a column's number has no days."""
    calls = {number: [] for number, _ in days}
    if any([number not in calls for number in numbers]):
        raise Unfit()
    for name, row in zip(names, minutes):
        for number, minute in zip(numbers, row):
            if minute is not None:
                calls[number].append((minute, name))
    trains = []
    for number, running in days:
        called = tuple([(name, minute) for minute, name in sorted(calls[number])])
        trains.append((number, running, called))
    plan = (calendar, tuple(trains))
    if plan_error(plan) is not None:
        raise Unfit()
    return plan


def lines_of_calls(sheet):
    """For each thread its calls as the sheet shows them: the minute, the number, and the place of the row or column."""
    _, _, rows, columns = sheet
    found = {}
    for row, told in enumerate(cells(sheet)):
        for column, minute in enumerate(told):
            if minute is not None:
                name, number = rows[row][0], columns[column][0]
                found.setdefault(("station", name), []).append((minute, number, row))
                found.setdefault(("train", number), []).append((minute, number, column))
    return found


def told_cuts(sheet):
    """The cuts at all gaps whose two calls lie in unlike rows, or unlike columns, ascending."""
    found = []
    for (kind, name), calls in lines_of_calls(sheet).items():
        lines = [line for _, _, line in sorted(calls)]
        for gap in range(1, len(lines)):
            if lines[gap - 1] != lines[gap]:
                found.append((kind, name, gap))
    return tuple(sorted(found))
