"""Editions of many kinds, drawn, and the texts of editions told from the document's words."""

from random import Random

from risingsheets.daytexts import days_text
from risingsheets.sheets import told_sheet
from tests.drawn import CALENDAR, NAMES, cuts_of_plan, plan_of
from tests.patterns import EMPTY_SHEET, SINGLE, all_groups, columns_shown, drawn_sheet, even_sheet, printed
from tests.test_sheets import SHEETS, other_sheets

LETTERS = "abcdefghijklmnopqrstuvwx"


def calls_shown(sheet):
    """For each call its minute, its row head and its column head, counted along the threads."""
    plan, cuts, _, _ = sheet
    calls = sorted((minute, number, place, name) for number, _, told in plan[1]
                   for place, (name, minute) in enumerate(told))
    met = {}
    firsts = {}
    shown = []
    for minute, number, _, name in calls:
        heads = []
        for kind, each in (("station", name), ("train", number)):
            place = met.get(each, 0)
            if (kind, each, place) in cuts or place == 0:
                firsts[each] = place
            met[each] = place + 1
            heads.append((each, firsts[each]))
        shown.append((minute, *heads))
    return shown


def label_with(order, head):
    """The text of a head in an order: the name or number, and the number of the part if there are more than one."""
    parts = sorted(each for each in order if each[0] == head[0])
    return str(head[0]) + (f"/{parts.index(head) + 1}" if len(parts) > 1 else "")


def unlike_days(sheet):
    """The unlike days, in the order of their letters."""
    running = {number: days for number, days, _ in sheet[0][1]}
    return list(dict.fromkeys(running[number] for number, _ in sheet[3]))


def printed_texts(sheet, gathering):
    """For each group its printed columns: what stands for trains and days, and a dict of what stands in rows."""
    columns = sheet[3]
    days = {number: LETTERS[unlike_days(sheet).index(running)] for number, running, _ in sheet[0][1]}
    calls = calls_shown(sheet)
    shown = [(label_with(columns, head), days[head[0]], {row: minute for minute, row, other in calls if other == head})
             for head in columns]
    told = []
    for group in gathering:
        size, times, step = group
        block, shown = shown[:size * times], shown[size * times:]
        if group == SINGLE:
            told.append(block)
        else:
            told.append(block[:size] + [("every" + (str(size) if size > 1 else ""), str(step), {})] + block[-size:])
    return told


def text_with(edition):
    """The text of an edition, by [H3] and [H4]."""
    sheet, gathering, (wide, high), (across, down) = edition
    first, length, holidays = sheet[0][0]
    told = [f"risingsheets {wide} {high}", f"calendar {first} {length}"]
    if holidays:
        told[1] += " holidays " + ",".join(str(day) for day in holidays)
    told += [f"{letter} {days_text(sheet[0][0], days)}" for letter, days in zip(LETTERS, unlike_days(sheet))]
    groups = printed_texts(sheet, gathering)
    for one, end in enumerate(down):
        for other, last in enumerate(across):
            columns = sum(groups[across[other - 1] if other else 0:last], [])
            told += [f"page {one + 1} {other + 1}"]
            told += ["train".ljust(17) + "".join(f"{train:>8}" for train, _, _ in columns)]
            told += ["days".ljust(17) + "".join(f"{days:>8}" for _, days, _ in columns)]
            for head in sheet[2][down[one - 1] if one else 0:end]:
                minutes = [column.get(head) for _, _, column in columns]
                texts = ["." if minute is None else f"{minute // 60}:{minute % 60:02}" for minute in minutes]
                told += [f"{label_with(sheet[2], head):<17}" + "".join(f"{text:>8}" for text in texts)]
    return "\n".join(told)


def drawn_ends(drawn, widths, room):
    """Any ends between which widths find room."""
    ends = []
    while (ends or [0])[-1] < len(widths):
        begin = (ends or [0])[-1]
        fitting = [end for end in range(begin + 1, len(widths) + 1) if sum(widths[begin:end]) <= room]
        ends.append(drawn.choice(fitting))
    return tuple(ends)


def drawn_gathering(drawn, sheet):
    """Any gathering of the sheet, with a group of more columns where one stands and it is drawn."""
    groups = all_groups(columns_shown(sheet))
    told = []
    place = 0
    while place < len(groups):
        told.append(drawn.choice(groups[place][-drawn.randint(1, len(groups[place])):]))
        place += told[-1][0] * told[-1][1]
    return tuple(told)


def drawn_edition(seed, sheet, gathering=None, wide=None, high=None):
    """An edition of a sheet whose further items are drawn where they are not told."""
    drawn = Random(seed)
    if gathering is None:
        gathering = drawn_gathering(drawn, sheet)
    widths = [printed(group) for group in gathering]
    least = max(widths + [3])
    size = (wide or drawn.choice([least, least + 1, 24]), high or drawn.choice([1, 2, 3, 40]))
    paging = (drawn_ends(drawn, widths, size[0]), drawn_ends(drawn, [1] * len(sheet[2]), size[1]))
    return (sheet, gathering, size, paging)


def singles(sheet):
    return (SINGLE,) * len(sheet[3])


def days_of_all_kinds():
    """24 trains with unlike days, the later ones ahead of the earlier ones."""
    calendar = (5, 40, (3, 17))
    trains = tuple((k + 1, tuple(range(k % 5, 40 - k)), (("abel", 100 - k), ("bron", 300 - k))) for k in range(24))
    return told_sheet((calendar, trains), ())


def many_parts(number, name, many):
    """A train with so many parts, all but the first one at one station that has a row for each of them."""
    calls = tuple((name if place else "b", place) for place in range(many))
    plan = (CALENDAR, ((number, (0, 5), calls),))
    return told_sheet(plan, cuts_of_plan(plan))


def wordy():
    """Stations that are called as the words of texts are, cut and uncut."""
    names = ("page", "train", "days", "every", "calendar", "risingsheets", "holidays", "a")
    plan = plan_of(tuple((name, 5 * place) for place, name in enumerate(names)),
                   tuple((name, 5 * place + 61) for place, name in enumerate(names)))
    return [told_sheet(plan, cuts) for cuts in ((), tuple(("station", name, 1) for name in sorted(names)),
                                                (("train", 1, 1), ("train", 1, 2)))]


# Sheets with rows, columns and days of all kinds, the greatest and the least.
SPECIAL = [
    EMPTY_SHEET, (((0, 7, (2,)), ()), (), (), ()), days_of_all_kinds(), many_parts(9999, "abcdefghijkl", 105),
    many_parts(10, "k", 9), many_parts(1, "z", 12), *wordy(),
    told_sheet(plan_of((("abel", 0), ("bron", 9), ("cole", 10), ("dell", 60), ("elm", 1440), ("fern", 2879))), ()),
    told_sheet(((6, 400, (0, 399)), ((9999, (0, 399), ((NAMES[0], 2879),)),)), ()),
]


def some_editions():
    """Editions of sheets of all kinds: singles, groups of each size, pages across and down, cuts of both kinds."""
    told = [drawn_edition(seed, sheet) for seed, sheet in enumerate(SHEETS[::2] + other_sheets()[1::2])]
    told += [drawn_edition(seed, drawn_sheet(seed, 3 + seed % 11)) for seed in range(60)]
    for size in (1, 2, 3, 4):
        for many in (3 * size, 3 * size + 1, 4 * size, 24):
            for step, difference in ((20, 1), (30, 40), (100, 3)):
                sheet = even_sheet(many, size, step, difference)
                told += [drawn_edition(many, sheet), drawn_edition(size, sheet, gathering=singles(sheet))]
    told += [drawn_edition(seed, sheet, wide=wide, high=high) for seed, sheet in enumerate(SPECIAL)
             for wide, high in ((3, 1), (24, 40), (None, None))]
    return told


EDITIONS = some_editions()
