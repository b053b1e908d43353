"""Threads of stations and trains, cuts, the parts into which they fall, and which heads are ahead of which."""

from risingsheets.basics import is_integer, is_tuple_of, is_within
from risingsheets.plans import calls_at, minute_of, stations_of

WORDS = ("station", "train")

# For each side the kind of thread of whose parts it has the heads, and the kind in whose parts these meet.
KINDS = {"columns": ("train", "station"), "rows": ("station", "train")}


def threads_of(plan):
    """The threads of all stations, then of all trains, each under its kind and its name or number."""
    found = {}
    for name in stations_of(plan):
        found[("station", name)] = tuple([(number, place) for _, number, place in calls_at(plan, name)])
    for number, _, calls in plan[1]:
        found[("train", number)] = tuple([(number, place) for place in range(len(calls))])
    return found


def spots_of(plan):
    """For each mark the station of its call, the place on this station's thread, and the minute."""
    found = {}
    for name in stations_of(plan):
        for place, (minute, number, further) in enumerate(calls_at(plan, name)):
            found[(number, further)] = (name, place, minute)
    return found


def thread(plan, kind, name):
    """The marks of the calls of a station or a train, in order; () if the plan has no such one."""
    return threads_of(plan).get((kind, name), ())


def gaps_of_plan(plan):
    """All cuts of the plan, ascending."""
    sizes = [(kind, name, len(marks)) for (kind, name), marks in threads_of(plan).items()]
    return tuple([(kind, name, gap) for kind, name, many in sizes for gap in range(1, many)])


def is_cut(value, sizes):
    """Whether value is a cut of the plan; sizes tells how many calls each thread has."""
    if not is_tuple_of(value, 3):
        return False
    kind, name, gap = value
    # The kinds come first: what is neither a string nor an integer might not be looked for, and True would be found.
    if kind not in WORDS or not (isinstance(name, str) or is_integer(name)):
        return False
    return is_within(gap, 1, sizes.get((kind, name), 0) - 1)


def cuts_error(plan, value):
    """None if value is an ascending tuple of cuts of the plan, otherwise the first thing wrong with it."""
    if not isinstance(value, tuple):
        return "form"
    sizes = {key: len(marks) for key, marks in threads_of(plan).items()}
    for place, cut in enumerate(value):
        if not is_cut(cut, sizes) or (place > 0 and cut <= value[place - 1]):
            return ("cut", place)
    return None


def parts_of(plan, cuts, kind):
    """The parts of all threads of a kind, each under its head, ascending by these."""
    found = {}
    for (each, name), marks in threads_of(plan).items():
        if each == kind:
            begins = [0] + [gap for word, other, gap in cuts if word == kind and other == name]
            for begin, end in zip(begins, begins[1:] + [len(marks)]):
                found[(name, begin)] = marks[begin:end]
    return found


def homes_of(plan, cuts, kind):
    """For each mark the head of the part of this kind in which its call lies."""
    return {mark: head for head, marks in parts_of(plan, cuts, kind).items() for mark in marks}


def heads(plan, cuts):
    """All row heads, and all column heads, ascending."""
    return (tuple(parts_of(plan, cuts, "station")), tuple(parts_of(plan, cuts, "train")))


def part(plan, cuts, kind, head):
    """The marks of the part with this head, in the order of its thread."""
    return parts_of(plan, cuts, kind)[head]


def place_of(plan, cuts, mark):
    """The row head and the column head in whose parts a call lies."""
    return (homes_of(plan, cuts, "station")[mark], homes_of(plan, cuts, "train")[mark])


def ahead(plan, cuts, side):
    """All pairs of heads of a side of which the first one is ahead of the second one, ascending."""
    kind, across = KINDS[side]
    homes = homes_of(plan, cuts, kind)
    spots = spots_of(plan)
    found = {}
    for marks in parts_of(plan, cuts, across).values():
        calls = [(spots[mark][2], homes[mark]) for mark in marks]
        for minute, head in calls:
            for later, other in calls:
                if minute < later:
                    found[(head, other)] = True
    return tuple(sorted(found))


def order_by(plan, cuts, side, pairs):
    """The heads of a side in the told order in which each first head of a pair stands ahead of the second one.

    It lacks those that no order can hold and those behind such ones."""
    parts = parts_of(plan, cuts, KINDS[side][0])
    followers = {head: [] for head in parts}
    waits = {head: 0 for head in parts}
    for head, other in pairs:
        followers[head].append(other)
        waits[other] += 1
    keys = {head: (minute_of(plan, marks[0]),) + head for head, marks in parts.items()}
    free = [keys[head] for head in parts if waits[head] == 0]
    taken = []
    while free:
        least = min(free)
        free.remove(least)
        head = least[1:]
        taken.append(head)
        for other in followers[head]:
            waits[other] -= 1
            if waits[other] == 0:
                free.append(keys[other])
    return tuple(taken)


def order_of(plan, cuts, side):
    """The heads of a side in their told order, without those that no order can hold and those behind such ones."""
    return order_by(plan, cuts, side, ahead(plan, cuts, side))
