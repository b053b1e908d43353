"""Trees that show that no good cuts cost as little as that: for each ring, what comes of each cut that hits it."""

from risingsheets.basics import is_tuple_of
from risingsheets.cutting import Pool, cost_of, easiest, least_good
from risingsheets.errors import HasCuts
from risingsheets.rings import error_of_ring, gaps_of_ring
from risingsheets.threads import spots_of


class Grower:
    """Makes right nodes. Good cuts of the plan cost more than most, so on each way that costs no more a ring stands."""

    def __init__(self, pool, price):
        self.pool = pool
        self.price = price
        self.grown = {}

    def node(self, way, rest):
        """A right node on a way that leaves so much, and the bits of all gaps of rings in it."""
        if rest < 0:
            return (None, 0)
        found = easiest(self.pool.standing(way), self.price, rest)
        grown = self.grown.setdefault((found.mask, rest), [])
        # What was made for another way is right on this one, too, if no ring in it has a gap in this way.
        for node, reach in grown:
            if not reach & way:
                return (node, reach)
        branches = []
        reach = found.mask
        for gap in found.gaps:
            node, further = self.node(way | self.pool.web.bits[gap], rest - cost_of(gap, self.price))
            branches.append((gap, node))
            reach = reach | further
        node = (found.ring, tuple(branches))
        grown.append((node, reach))
        return (node, reach)


def tree(plan, price, most):
    """A right tree; HasCuts with good cuts that cost at most most if there is none."""
    pool = Pool(plan)
    cuts = least_good(pool, price, most)
    if cuts is not None:
        raise HasCuts(cuts)
    return Grower(pool, price).node(0, most)[0]


def is_that_cut(value, cut):
    """Whether value is the cut, also by the kinds of its items: True equals 1, but is no gap and no number."""
    return isinstance(value, tuple) and value == cut and not any([isinstance(item, bool) for item in value])


class Judge:
    """Tells whether nodes are right for a plan and a price."""

    def __init__(self, plan, price):
        self.spots = spots_of(plan)
        self.price = price

    def gaps_told(self, ring, way):
        """The gaps of ring, None if it is no ring of the plan or has one of them in the way."""
        if error_of_ring(self.spots, ring) is not None:
            return None
        gaps = gaps_of_ring(self.spots, ring)
        if any([gap in way for gap in gaps]):
            return None
        return gaps

    def is_right(self, value, way, rest):
        """Whether value is a right node on a way, a tuple of cuts, that leaves so much."""
        if rest < 0:
            return value is None
        if not is_tuple_of(value, 2):
            return False
        ring, branches = value
        gaps = self.gaps_told(ring, way)
        if gaps is None or not is_tuple_of(branches, len(gaps)):
            return False
        for gap, branch in zip(gaps, branches):
            if not is_tuple_of(branch, 2) or not is_that_cut(branch[0], gap):
                return False
            if not self.is_right(branch[1], way + (gap,), rest - cost_of(gap, self.price)):
                return False
        return True


def tree_holds(plan, price, most, value):
    """Whether value is a right tree."""
    return Judge(plan, price).is_right(value, (), most)
