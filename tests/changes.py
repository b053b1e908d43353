"""Elder sheets with newer plans and cuts, drawn, and what stays of them told from the document's words."""

from itertools import combinations
from random import Random

from risingsheets.cutting import are_good
from risingsheets.plans import plan_error
from risingsheets.threads import cuts_error
from tests.drawn import NAMES, cuts_of_plan, drawn_cuts
from tests.reference import KIND, all_heads, head_with, led, marks_of, minute_at, pairs_ahead, station_at
from tests.test_sheets import SHEETS, any_order

SIDES = ("columns", "rows")


def told_of_parts(plan, cuts, side):
    """For each head of a side what [I2] asks of its part: name or number, days, and its calls."""
    running = {number: days for number, days, _ in plan[1]}
    told = {}
    for head in all_heads(plan, cuts, KIND[side]):
        marks = [mark for mark in marks_of(plan) if head_with(plan, cuts, KIND[side], mark) == head]
        if side == "columns":
            told[head] = (head[0], running[head[0]],
                          {(station_at(plan, mark), minute_at(plan, mark)) for mark in marks})
        else:
            told[head] = (head[0], {(mark[0], minute_at(plan, mark)) for mark in marks})
    return told


def staying_with(sheet, plan, cuts, side):
    """All staying pairs, in the order of the elder heads."""
    elder, newer = told_of_parts(*sheet[:2], side), told_of_parts(plan, cuts, side)
    return tuple((head, other) for head in sheet[3 if side == "columns" else 2] for other in newer
                 if elder[head] == newer[other])


def turned_with(sheet, plan, cuts, side):
    """All pairs of staying pairs that are turned, ascending."""
    ways = led(pairs_ahead(plan, cuts, side))
    return tuple(sorted((first, second) for first, second in combinations(staying_with(sheet, plan, cuts, side), 2)
                        if (second[1], first[1]) in ways))


def most_apart(pairs, turns):
    """How many of the pairs can be taken at most, no two of them turned, by trying all of them."""
    for many in range(len(pairs), 0, -1):
        for lot in combinations(pairs, many):
            if not any(two in turns for two in combinations(lot, 2)):
                return many
    return 0


def with_trains(plan, trains):
    return (plan[0], tuple(sorted(trains)))


def changed_plan(drawn, plan):
    """The plan with some of its trains gone, new or changed, or with another calendar."""
    trains = list(plan[1])
    calendar = plan[0]
    for _ in range(drawn.randrange(3)):
        what = drawn.randrange(6)
        number, days, calls = drawn.choice(trains) if trains else (7, (0,), (("abel", 3),))
        others = [train for train in trains if train[0] != number]
        if what == 0:
            trains = others
        elif what == 1:
            trains += [(drawn.choice(range(40, 60)), (0,), ((drawn.choice(NAMES[:4]), drawn.randrange(60)),))]
        elif what == 2:
            trains = others + [(number, days[:-1] or (3,), calls)]
        elif what == 3:
            place = drawn.randrange(len(calls))
            trains = others + [(number, days, calls[:place] + ((calls[place][0], calls[place][1] + 1),)
                                + calls[place + 1:])]
        elif what == 4:
            trains = others + [(number, days, calls[1:] or calls)]
        else:
            calendar = (drawn.randrange(7), 30 + drawn.randrange(5), (2,))
    newer = (calendar, tuple(sorted(trains)))
    return plan if plan_error(newer) else newer


def changed_cuts(drawn, plan, cuts):
    """Good cuts of the plan: the same ones, some less of one kind, or others."""
    kind = drawn.choice(["station", "train"])
    fewer = tuple(cut for cut in cuts if cut[0] != kind or drawn.randrange(3))
    lots = [cuts, fewer, drawn_cuts(drawn.randrange(100), plan, 5),
            tuple(cut for cut in cuts_of_plan(plan) if cut[0] != kind)]
    drawn.shuffle(lots)
    for lot in lots:
        if cuts_error(plan, lot) is None and are_good(plan, lot):
            return lot
    return cuts_of_plan(plan)


def any_sheet(seed, sheet):
    """The sheet in any other right orders."""
    return sheet[:2] + (any_order(seed, *sheet[:2], "rows"), any_order(seed + 1, *sheet[:2], "columns"))


def drawn_changes():
    """Elder sheets, each with a newer plan and good cuts of it."""
    told = []
    for seed, sheet in enumerate(SHEETS + [any_sheet(seed, each) for seed in (1, 3, 5) for each in SHEETS]):
        drawn = Random(seed)
        plan = changed_plan(drawn, sheet[0]) if seed % 3 else sheet[0]
        told.append((sheet, plan, changed_cuts(drawn, plan, sheet[1])))
    return told


CHANGES = drawn_changes()
