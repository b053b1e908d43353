"""Threads, rings, good cuts and right trees from the document's words, told in another way than the package's."""

from itertools import combinations, permutations


def calls_of(plan):
    """All calls as (minute, number, place, name), ascending."""
    return sorted((minute, number, place, name) for number, _, calls in plan[1]
                  for place, (name, minute) in enumerate(calls))


def marks_of(plan):
    return [(number, place) for _, number, place, _ in calls_of(plan)]


def minute_at(plan, mark):
    return [minute for minute, number, place, _ in calls_of(plan) if (number, place) == mark][0]


def station_at(plan, mark):
    return [name for _, number, place, name in calls_of(plan) if (number, place) == mark][0]


def thread_with(plan, kind, mark):
    """The name or number of the thread of a kind on which a call lies, and its marks."""
    if kind == "train":
        return mark[0], tuple(each for each in sorted(marks_of(plan)) if each[0] == mark[0])
    name = station_at(plan, mark)
    return name, tuple(each for each in marks_of(plan) if station_at(plan, each) == name)


def head_with(plan, cuts, kind, mark):
    """The head of the part of a kind in which a call lies."""
    name, marks = thread_with(plan, kind, mark)
    first = marks.index(mark)
    while first > 0 and (kind, name, first) not in cuts:
        first -= 1
    return (name, first)


ACROSS = {"train": "station", "station": "train"}
KIND = {"columns": "train", "rows": "station"}


def all_heads(plan, cuts, kind):
    return sorted({head_with(plan, cuts, kind, mark) for mark in marks_of(plan)})


def pairs_ahead(plan, cuts, side):
    """All pairs of heads of which the first one is ahead of the second one, ascending."""
    kind = KIND[side]
    found = set()
    told = [(minute_at(plan, mark), head_with(plan, cuts, kind, mark), head_with(plan, cuts, ACROSS[kind], mark))
            for mark in marks_of(plan)]
    for minute, head, home in told:
        found.update((head, other) for later, other, place in told if place == home and minute < later)
    return tuple(sorted(found))


def led(pairs):
    """The pairs of heads of which the first one is led to the second one, by any number of steps."""
    found = set(pairs)
    while True:
        more = {(head, last) for head, other in found for first, last in found if other == first} - found
        if not more:
            return found
        found |= more


def has_circle(pairs):
    return any(head == other for head, other in led(pairs))


def lets_none_stand(plan, cuts):
    """Whether cuts are good: on neither side a head is led to itself."""
    return not any(has_circle(pairs_ahead(plan, cuts, side)) for side in ("columns", "rows"))


def right_orders(plan, cuts, side):
    """All orders of the heads of a side in which each stands before all that it is ahead of."""
    pairs = pairs_ahead(plan, cuts, side)
    return [order for order in permutations(all_heads(plan, cuts, KIND[side]))
            if all(order.index(head) < order.index(other) for head, other in pairs)]


def ring_fault(plan, side, arcs):
    """What [C8] and [C9] tell of a side and arcs, which are pairs of marks of calls, one or more."""
    kind = KIND[side]
    for place, (mark, other) in enumerate(arcs):
        if thread_with(plan, ACROSS[kind], mark) != thread_with(plan, ACROSS[kind], other):
            return ("arc", place)
        if not minute_at(plan, mark) < minute_at(plan, other):
            return ("arc", place)
    for place in range(len(arcs)):
        onward = arcs[(place + 1) % len(arcs)]
        if thread_with(plan, kind, arcs[place][1]) != thread_with(plan, kind, onward[0]):
            return ("link", place)
    return None


def gaps_crossed(plan, kind, mark, other):
    name, marks = thread_with(plan, kind, mark)
    low, high = sorted((marks.index(mark), marks.index(other)))
    return {(kind, name, gap) for gap in range(low + 1, high + 1)}


def ring_gaps(plan, ring):
    """The gaps of a ring, ascending."""
    side, arcs = ring
    found = set()
    for place, (mark, other) in enumerate(arcs):
        found |= gaps_crossed(plan, ACROSS[KIND[side]], mark, other)
        found |= gaps_crossed(plan, KIND[side], other, arcs[(place + 1) % len(arcs)][0])
    return tuple(sorted(found))


def cost_with(cuts, price):
    total = 0
    for kind, _, _ in cuts:
        total += {"station": price, "train": 1}[kind]
    return total


def sets_of_cuts(cuts, price, most):
    """All ascending tuples of these cuts that cost at most most."""
    return [chosen for many in range(most + 1) for chosen in combinations(cuts, many)
            if cost_with(chosen, price) <= most]


def is_plain(value):
    """Whether a value has nothing in it but tuples, strings, integers and None."""
    if type(value) is tuple:
        return all(is_plain(item) for item in value)
    return value is None or type(value) in (str, int)


def is_ring(plan, value):
    """Whether a plain value is a ring of the plan."""
    marks = marks_of(plan)
    if not isinstance(value, tuple) or len(value) != 2 or value[0] not in ("columns", "rows"):
        return False
    if not isinstance(value[1], tuple) or not value[1]:
        return False
    if not all(isinstance(arc, tuple) and len(arc) == 2 and set(arc) <= set(marks) for arc in value[1]):
        return False
    return ring_fault(plan, *value) is None


def is_right_node(plan, price, most, way, value):
    """Whether a plain value is a right node on a way, by [D3]."""
    if cost_with(way, price) > most:
        return value is None
    if not isinstance(value, tuple) or len(value) != 2 or not is_ring(plan, value[0]):
        return False
    ring, branches = value
    gaps = ring_gaps(plan, ring)
    if set(gaps) & set(way) or not isinstance(branches, tuple):
        return False
    if not all(isinstance(branch, tuple) and len(branch) == 2 for branch in branches):
        return False
    if tuple(cut for cut, _ in branches) != gaps:
        return False
    return all(is_right_node(plan, price, most, way + (cut,), node) for cut, node in branches)


def is_right_tree(plan, price, most, value):
    return is_plain(value) and is_right_node(plan, price, most, (), value)
