"""Rings: what cuts must not let stand, and how they are found."""

from risingsheets.basics import is_integer, is_tuple_of
from risingsheets.threads import KINDS, gaps_of_plan, homes_of, order_of, spots_of, threads_of

SIDES = ("columns", "rows")

# How a walk along a ring came to a call: by an arc whose calls so far are of one minute, by an arc, by a link.
LEVEL = 0
ARC = 1
LINK = 2
MANNERS = 3


def is_mark(spots, value):
    """Whether value is the mark of a call."""
    # The kinds come first: True would be found where 1 is.
    return is_tuple_of(value, 2) and is_integer(value[0]) and is_integer(value[1]) and value in spots


def has_form(spots, value):
    """Whether value is a pair of a side and one pair or more of marks."""
    if not is_tuple_of(value, 2) or value[0] not in SIDES:
        return False
    arcs = value[1]
    if not isinstance(arcs, tuple) or len(arcs) == 0:
        return False
    return all([is_tuple_of(arc, 2) and is_mark(spots, arc[0]) and is_mark(spots, arc[1]) for arc in arcs])


def lies(spots, kind, mark):
    """The name or number of the thread of this kind on which a call lies, and its place there."""
    if kind == "train":
        return mark
    name, place, _ = spots[mark]
    return (name, place)


def share(spots, kind, mark, other):
    """Whether two calls lie on one thread of this kind."""
    return lies(spots, kind, mark)[0] == lies(spots, kind, other)[0]


def links_of(arcs):
    """For each arc its second call and the first one of the next arc."""
    return [(arc[1], onward[0]) for arc, onward in zip(arcs, arcs[1:] + arcs[:1])]


def error_of_ring(spots, value):
    """What ring_error tells of value."""
    if not has_form(spots, value):
        return "form"
    side, arcs = value
    kind, across = KINDS[side]
    for place, (mark, other) in enumerate(arcs):
        if not share(spots, across, mark, other) or spots[mark][2] >= spots[other][2]:
            return ("arc", place)
    for place, (mark, other) in enumerate(links_of(arcs)):
        if not share(spots, kind, mark, other):
            return ("link", place)
    return None


def gaps_between(spots, kind, mark, other):
    """All gaps between two calls of one thread of this kind."""
    name, place = lies(spots, kind, mark)
    further = lies(spots, kind, other)[1]
    return [(kind, name, gap) for gap in range(min(place, further) + 1, max(place, further) + 1)]


def gaps_of_ring(spots, ring):
    """The gaps of a ring, ascending."""
    side, arcs = ring
    kind, across = KINDS[side]
    found = {}
    for mark, other in arcs:
        for gap in gaps_between(spots, across, mark, other):
            found[gap] = True
    for mark, other in links_of(arcs):
        for gap in gaps_between(spots, kind, mark, other):
            found[gap] = True
    return tuple(sorted(found))


def ring_error(plan, value):
    """None if value is a ring of the plan, otherwise the first thing wrong with it."""
    return error_of_ring(spots_of(plan), value)


def gaps_of(plan, ring):
    """The cuts of the plan at all gaps of a ring, ascending."""
    return gaps_of_ring(spots_of(plan), ring)


def lets_stand(plan, cuts, ring):
    """Whether none of the ring's gaps is among the cuts."""
    return not any([gap in cuts for gap in gaps_of(plan, ring)])


def arcs_along(path, marks):
    """The arcs of a walk; path has its steps, from its first call back to this one, marks the mark of each call."""
    arcs = []
    begin = path[0] // MANNERS
    for step, onward in zip(path, path[1:]):
        if onward % MANNERS == LINK:
            if step % MANNERS != LINK:
                arcs.append((marks[begin], marks[step // MANNERS]))
            begin = onward // MANNERS
    # A walk that comes back by an arc has a link of one call there.
    if path[-1] % MANNERS == ARC:
        arcs.append((marks[begin], marks[path[-1] // MANNERS]))
    return tuple(arcs)


def path_to(came, step):
    """The steps of a walk up to this one; came tells for each step the one ahead of it."""
    path = [step]
    while came[step] is not None:
        step = came[step]
        path.append(step)
    return path[::-1]


class Web:
    """The gaps of a plan as bits, and the steps by which walks along rings cross them, one gap a step."""

    def __init__(self, plan):
        self.whole = plan
        self.spots = spots_of(plan)
        self.marks = sorted(self.spots)
        self.gaps = gaps_of_plan(plan)
        self.bits = {gap: 1 << place for place, gap in enumerate(self.gaps)}
        self.steps = {side: self.steps_on(side) for side in SIDES}

    def steps_on(self, side):
        """For each step of a walk on this side the steps that can come next, each with the bit of the gap crossed."""
        kind, across = KINDS[side]
        places = {mark: place for place, mark in enumerate(self.marks)}
        steps = [[] for _ in range(MANNERS * len(self.marks))]
        for (each, name), marks in threads_of(self.whole).items():
            for gap in range(1, len(marks)):
                mark, other = marks[gap - 1], marks[gap]
                low, high = MANNERS * places[mark], MANNERS * places[other]
                bit = self.bits[(each, name, gap)]
                if each == kind:
                    for manner in (ARC, LINK):
                        steps[low + manner].append((high + LINK, bit))
                        steps[high + manner].append((low + LINK, bit))
                else:
                    rises = self.spots[mark][2] < self.spots[other][2]
                    steps[low + ARC].append((high + ARC, bit))
                    for manner in (LEVEL, LINK):
                        steps[low + manner].append((high + ARC if rises else high + LEVEL, bit))
        return steps

    def mask_of(self, cuts):
        """The bits of cuts in one number."""
        return sum([self.bits[cut] for cut in cuts])

    def cuts_in(self, mask):
        """The cuts whose bits are in a number, ascending."""
        return tuple([gap for gap in self.gaps if self.bits[gap] & mask])

    def ring_from(self, side, start, closed, most):
        """A ring of fewest gaps, at most so many and none closed, with an arc from the call start on; or None."""
        steps = self.steps[side]
        goals = (MANNERS * start + ARC, MANNERS * start + LINK)
        came = {MANNERS * start + LEVEL: None}
        row = list(came)
        for _ in range(most):
            if len(row) == 0:
                return None
            further = []
            # A copy, as no loop changes what it goes over: the list called further is called row in the next round.
            for step in list(row):
                for onward, bit in steps[step]:
                    if not bit & closed and onward not in came:
                        came[onward] = step
                        further.append(onward)
            for goal in goals:
                if goal in came:
                    return (side, arcs_along(path_to(came, goal), self.marks))
            row = further
        return None

    def starts_on(self, side, cuts):
        """The places of the calls from which arcs of rings on this side can lead that the cuts let stand."""
        taken = set(order_of(self.whole, cuts, side))
        homes = homes_of(self.whole, cuts, KINDS[side][0])
        return [place for place, mark in enumerate(self.marks) if homes[mark] not in taken]

    def shortest(self, cuts):
        """A ring of fewest gaps that the cuts let stand, None if there is none."""
        closed = self.mask_of(cuts)
        found = None
        most = len(self.gaps)
        for side in SIDES:
            for start in self.starts_on(side, cuts):
                ring = self.ring_from(side, start, closed, most)
                if ring is not None:
                    found = ring
                    most = len(gaps_of_ring(self.spots, ring)) - 1
        return found


def ring_of(plan, cuts):
    """A ring that the cuts let stand, None if they let none stand."""
    return Web(plan).shortest(cuts)
