"""Sheets that follow an elder one, and the supplements, with their texts, that lead from the one to the other."""

from risingsheets.basics import ascends, is_tuple_of, is_within, read_number
from risingsheets.bounds import MAX_CALLS, MAX_NUMBER
from risingsheets.errors import BadSupplement, BadText
from risingsheets.plans import is_calendar, is_name, plan_error, train_error
from risingsheets.plantexts import calendar_text, read_calendar, read_train, train_text
from risingsheets.sheets import sheet_error
from risingsheets.staying import kept, order_in, staying
from risingsheets.threads import KINDS, ahead, cuts_error, order_by

# Counts in texts have at most six figures.
MAX_COUNT = 999999


def order_led_on(sheet, plan, cuts, side):
    """The newer heads of a side, those that kept tells in the order of their elder heads."""
    held = [newer for _, newer in kept(sheet, plan, cuts, side)]
    return order_by(plan, cuts, side, ahead(plan, cuts, side) + tuple(zip(held, held[1:])))


def following(sheet, plan, cuts):
    """A sheet of plan and cuts in which as many heads as can be keep the order of the elder sheet."""
    return (plan, cuts, order_led_on(sheet, plan, cuts, "rows"), order_led_on(sheet, plan, cuts, "columns"))


def names_thread(kind, value):
    """Whether value is a name, for stations, or a number, for trains."""
    return is_name(value) if kind == "station" else is_within(value, 1, MAX_NUMBER)


def is_any_cut(value):
    """Whether value can be a cut of some plan."""
    if not is_tuple_of(value, 3) or value[0] not in ("station", "train"):
        return False
    return names_thread(value[0], value[1]) and is_within(value[2], 1, MAX_CALLS - 1)


def is_any_head(kind, value):
    """Whether value can be a head of some plan."""
    return is_tuple_of(value, 2) and names_thread(kind, value[0]) and is_within(value[1], 0, MAX_CALLS - 1)


def is_put(kind, value):
    """Whether value is a pair of a head and of a head or None."""
    if not is_tuple_of(value, 2) or not is_any_head(kind, value[0]):
        return False
    return value[1] is None or is_any_head(kind, value[1])


def are_moves(side, value):
    """Whether value is a pair of an ascending tuple of heads of the side, and of a tuple of puts."""
    kind = KINDS[side][0]
    if not is_tuple_of(value, 2) or not isinstance(value[0], tuple) or not isinstance(value[1], tuple):
        return False
    struck, puts = value
    # The kinds come first: what is no head might not be compared with one.
    if not all([is_any_head(kind, head) for head in struck]) or not ascends(struck):
        return False
    return all([is_put(kind, put) for put in puts])


def are_trains(calendar, value):
    """Whether value is a tuple of trains of the calendar, ascending by their numbers."""
    if not isinstance(value, tuple):
        return False
    for place in range(len(value)):
        if train_error(value, place, calendar[1]) is not None:
            return False
    return True


def is_supplement(value):
    """Whether value is a supplement, whichever sheets it is for."""
    if not is_tuple_of(value, 6):
        return False
    calendar, gone, fresh, cuts, row_moves, column_moves = value
    if not is_calendar(calendar) or not isinstance(gone, tuple) or not isinstance(cuts, tuple):
        return False
    if not all([is_within(number, 1, MAX_NUMBER) for number in gone]) or not ascends(gone):
        return False
    if not are_trains(calendar, fresh) or any([train[0] in gone for train in fresh]):
        return False
    if not all([is_any_cut(cut) for cut in cuts]) or not ascends(cuts):
        return False
    return are_moves("rows", row_moves) and are_moves("columns", column_moves)


def plan_supplied(plan, told):
    """What becomes of a plan by a supplement; BadSupplement if a train that is to go is not there."""
    calendar, gone, fresh = told[:3]
    trains = {train[0]: train for train in plan[1]}
    for number in gone:
        if number not in trains:
            raise BadSupplement()
        del trains[number]
    for train in fresh:
        trains[train[0]] = train
    return (calendar, tuple([trains[number] for number in sorted(trains)]))


def moved_heads(heads, moves):
    """A row of heads behind moves; BadSupplement if one of them can't be done."""
    struck, puts = moves
    row = list(heads)
    for head in struck:
        if head not in row:
            raise BadSupplement()
        row.remove(head)
    for head, other in puts:
        if head in row or (other is not None and other not in row):
            raise BadSupplement()
        row.insert(0 if other is None else row.index(other) + 1, head)
    return tuple(row)


def begun_heads(sheet, plan, cuts, side):
    """The newer heads of all staying pairs, in the order of staying."""
    return tuple([newer for _, newer in staying(sheet, plan, cuts, side)])


def supplied(sheet, value):
    """The sheet to which value leads; BadSupplement if it is no supplement, or leads to none."""
    if not is_supplement(value):
        raise BadSupplement()
    plan = plan_supplied(sheet[0], value)
    cuts = value[3]
    if plan_error(plan) is not None or cuts_error(plan, cuts) is not None:
        raise BadSupplement()
    rows = moved_heads(begun_heads(sheet, plan, cuts, "rows"), value[4])
    columns = moved_heads(begun_heads(sheet, plan, cuts, "columns"), value[5])
    newer = (plan, cuts, rows, columns)
    if sheet_error(newer) is not None:
        raise BadSupplement()
    return newer


def longest_rise(numbers):
    """As many of the numbers, none of which stands twice, as rise one behind another."""
    runs = []
    for number in numbers:
        lesser = [run for run in runs if run[-1] < number]
        runs.append(max(lesser, key=len, default=[]) + [number])
    return max(runs, key=len, default=[])


def moves_to(sheet, newer, side):
    """The moves with the fewest struck heads that make the order of the newer sheet."""
    begun = begun_heads(sheet, newer[0], newer[1], side)
    order = order_in(newer, side)
    places = {head: place for place, head in enumerate(order)}
    left = longest_rise([places[head] for head in begun])
    struck = [head for head in begun if places[head] not in left]
    puts = [(head, order[place - 1] if place > 0 else None) for place, head in enumerate(order)
            if head in struck or head not in begun]
    return (tuple(sorted(struck)), tuple(puts))


def supplement(sheet, newer):
    """A supplement that leads from sheet to newer, with the fewest struck heads."""
    calendar, trains = newer[0]
    numbers = [train[0] for train in trains]
    gone = tuple([train[0] for train in sheet[0][1] if train[0] not in numbers])
    fresh = tuple([train for train in trains if train not in sheet[0][1]])
    return (calendar, gone, fresh, newer[1], moves_to(sheet, newer, "rows"), moves_to(sheet, newer, "columns"))


def cuts_text(cuts):
    """The text of cuts: none, or their words with commas between them."""
    if cuts == ():
        return "none"
    return ", ".join([f"{kind} {name} {gap}" for kind, name, gap in cuts])


def read_cut(text):
    """The cut that text tells, of whichever plan; BadText if it tells none."""
    words = text.split(" ")
    if len(words) != 3:
        raise BadText()
    kind, name, gap = words
    if kind == "station" and is_name(name):
        return (kind, name, read_number(gap, MAX_COUNT))
    if kind == "train":
        return (kind, read_number(name, MAX_COUNT), read_number(gap, MAX_COUNT))
    raise BadText()


def read_cuts(text):
    """The cuts that text tells, in whatever order; BadText if it tells none."""
    if text == "none":
        return ()
    return tuple([read_cut(each) for each in text.split(", ")])


def moves_lines(moves):
    """The lines of the moves of a side."""
    struck, puts = moves
    lines = [f"strike {name} {first}" for name, first in struck]
    for (name, first), other in puts:
        behind = "first" if other is None else f"behind {other[0]} {other[1]}"
        lines.append(f"put {name} {first} {behind}")
    return lines


def supplement_text(told):
    """The text of a supplement."""
    calendar, gone, fresh, cuts, row_moves, column_moves = told
    numbers = " ".join([str(number) for number in gone]) if gone != () else "none"
    lines = ["supplement", calendar_text(calendar), f"gone {numbers}"]
    lines = lines + [train_text(calendar, train) for train in fresh] + [f"cuts {cuts_text(cuts)}"]
    return "\n".join(lines + ["rows"] + moves_lines(row_moves) + ["columns"] + moves_lines(column_moves))


def read_head(side, words):
    """The head of a side that two words tell."""
    name = words[0] if side == "rows" else read_number(words[0], MAX_COUNT)
    return (name, read_number(words[1], MAX_COUNT))


def read_moves(side, lines):
    """The moves of a side that lines tell; how many words a line has tells what it is."""
    struck = []
    puts = []
    for line in lines:
        words = line.split(" ")
        if len(words) == 3:
            struck.append(read_head(side, words[1:]))
        elif len(words) == 4:
            puts.append((read_head(side, words[1:3]), None))
        elif len(words) == 6:
            puts.append((read_head(side, words[1:3]), read_head(side, words[4:])))
        else:
            raise BadText()
    return (tuple(struck), tuple(puts))


def part_lines(lines, word):
    """The lines ahead of the first one whose first word is this one, and those from it on."""
    for place, line in enumerate(lines):
        if line.partition(" ")[0] == word:
            return (lines[:place], lines[place:])
    raise BadText()


def told_supplement(lines):
    """The one supplement of which the lines can be the text; BadText if there is none."""
    if len(lines) < 3:
        raise BadText()
    calendar = read_calendar(lines[1])
    words = lines[2].split(" ")[1:]
    gone = () if words == ["none"] else tuple([read_number(word, MAX_COUNT) for word in words])
    trains, rest = part_lines(lines[3:], "cuts")
    fresh = tuple([read_train(calendar, line) for line in trains])
    cuts = read_cuts(rest[0].partition(" ")[2])
    rows, columns = part_lines(rest[1:], "columns")
    return (calendar, gone, fresh, cuts, read_moves("rows", rows[1:]), read_moves("columns", columns[1:]))


def read_supplement(value):
    """The supplement of which value is the text; BadText if there is none."""
    if not isinstance(value, str):
        raise BadText()
    told = told_supplement(value.split("\n"))
    # What the lines tell may be none: numbers too great or out of order; or it is written otherwise: days, words.
    if not is_supplement(told) or supplement_text(told) != value:
        raise BadText()
    return told
