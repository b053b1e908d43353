"""What stays of a sheet when the plan changes: pairs of elder and newer heads, and how many can keep their order."""

from risingsheets.basics import is_tuple_of
from risingsheets.plans import train_of
from risingsheets.sheets import is_head
from risingsheets.threads import KINDS, ahead, order_of, parts_of, spots_of


def order_in(sheet, side):
    """The heads of a side of a sheet, in their order."""
    return sheet[2] if side == "rows" else sheet[3]


def tokens(plan, cuts, side):
    """For each head of a side what has to be found of it in another plan if it is to stay."""
    spots = spots_of(plan)
    told = {}
    for head, marks in parts_of(plan, cuts, KINDS[side][0]).items():
        if side == "rows":
            told[head] = (head[0], tuple([(mark[0], spots[mark][2]) for mark in marks]))
        else:
            calls = tuple([(spots[mark][0], spots[mark][2]) for mark in marks])
            told[head] = (head[0], train_of(plan, head[0])[1], calls)
    return told


def staying(sheet, plan, cuts, side):
    """The pairs of an elder head that stays and its newer head, in the order of the elder ones."""
    elder = tokens(sheet[0], sheet[1], side)
    newer = {token: head for head, token in tokens(plan, cuts, side).items()}
    return tuple([(head, newer[elder[head]]) for head in order_in(sheet, side) if elder[head] in newer])


def led_from(plan, cuts, side):
    """The bit of each head, and for each head the bits of all to which it is led; the cuts are good."""
    order = order_of(plan, cuts, side)
    bits = {head: 1 << place for place, head in enumerate(order)}
    followers = {head: [] for head in order}
    for head, other in ahead(plan, cuts, side):
        followers[head].append(other)
    reach = {}
    # Each head is led only to heads behind it, so these come first.
    for head in order[::-1]:
        found = 0
        for other in followers[head]:
            found = found | bits[other] | reach[other]
        reach[head] = found
    return (bits, reach)


def reached(turns, leaders, begins):
    """Walks by turns to later places and back to their leaders: for each place from where it was reached; and the
    first one without a leader, where the walk ends, or None."""
    came = {}
    row = begins
    while len(row) > 0:
        further = []
        # A copy, as no loop changes what it goes over: the list called further is called row in the next round.
        for place in list(row):
            for onward in turns[place]:
                if onward not in came:
                    came[onward] = place
                    if leaders[onward] is None:
                        return (came, onward)
                    further.append(leaders[onward])
        row = further
    return (came, None)


class Knot:
    """The staying pairs of a side, which of them are turned, and the fewest chains in which all of them are."""

    def __init__(self, sheet, plan, cuts, side):
        self.pairs = staying(sheet, plan, cuts, side)
        self.turns = self.turns_with(led_from(plan, cuts, side))
        self.followers = [None] * len(self.pairs)
        self.leaders = [None] * len(self.pairs)
        for place in range(len(self.pairs)):
            self.link(place)

    def turns_with(self, led):
        """For each place of a staying pair the later places of those with which it is turned."""
        bits, reach = led
        newer = [head for _, head in self.pairs]
        many = len(newer)
        return [[later for later in range(place + 1, many) if reach[newer[later]] & bits[newer[place]]]
                for place in range(many)]

    def link(self, begin):
        """Gives this place a follower, if there is a way to change other links for it: so there are most links."""
        came, place = reached(self.turns, self.leaders, [begin])
        while place is not None:
            leader = came[place]
            left = self.followers[leader]
            self.followers[leader] = place
            self.leaders[place] = leader
            place = left

    def chained(self):
        """The chains, as lists of places."""
        told = []
        for begin, leader in enumerate(self.leaders):
            if leader is None:
                chain = []
                place = begin
                while place is not None:
                    chain.append(place)
                    place = self.followers[place]
                told.append(chain)
        return told

    def apart(self):
        """As many places as there are chains, no two of them of pairs that are turned."""
        begins = [place for place, follower in enumerate(self.followers) if follower is None]
        came, _ = reached(self.turns, self.leaders, begins)
        # The walk has gone on from each of these places; a turn between two would have led it to the later one.
        return [place for place, follower in enumerate(self.followers)
                if place not in came and (follower is None or follower in came)]


def turned(sheet, plan, cuts, side):
    """All pairs of staying pairs that are turned, ascending."""
    knot = Knot(sheet, plan, cuts, side)
    found = [(knot.pairs[place], knot.pairs[later]) for place, turns in enumerate(knot.turns) for later in turns]
    return tuple(sorted(found))


def kept(sheet, plan, cuts, side):
    """As many staying pairs as can be, no two of them turned, in the order of staying."""
    knot = Knot(sheet, plan, cuts, side)
    return tuple([knot.pairs[place] for place in knot.apart()])


def chains(sheet, plan, cuts, side):
    """As many chains as kept has pairs, in which each staying pair is once."""
    knot = Knot(sheet, plan, cuts, side)
    return tuple([tuple([knot.pairs[place] for place in chain]) for chain in knot.chained()])


def is_pair_of_heads(value):
    """Whether value is a pair of two heads."""
    return is_tuple_of(value, 2) and is_head(value[0]) and is_head(value[1])


def are_chains(value):
    """Whether value is a tuple of tuples of one pair of heads or more."""
    if not isinstance(value, tuple) or not all([isinstance(chain, tuple) and len(chain) > 0 for chain in value]):
        return False
    return all([is_pair_of_heads(pair) for chain in value for pair in chain])


def chains_hold(sheet, plan, cuts, side, value):
    """Whether value is a tuple of as many chains as kept has pairs, in which each staying pair is once."""
    if not are_chains(value):
        return False
    knot = Knot(sheet, plan, cuts, side)
    places = {pair: place for place, pair in enumerate(knot.pairs)}
    rows = [[places.get(pair) for pair in chain] for chain in value]
    met = [place for row in rows for place in row]
    if None in met or sorted(met) != list(range(len(places))) or len(rows) != len(knot.chained()):
        return False
    return all([later in knot.turns[place] for row in rows for place, later in zip(row, row[1:])])
