"""Cuts of least cost: a search for the cheapest cuts that leave no ring standing."""

from risingsheets.errors import NeedsMore
from risingsheets.rings import SIDES, Web, gaps_of_ring, ring_of


def cost_of(cut, price):
    """What one cut costs."""
    return price if cut[0] == "station" else 1


def cost(cuts, price):
    """The cost of cuts: 1 for each of a train and price for each of a station."""
    return sum([cost_of(cut, price) for cut in cuts])


def are_good(plan, cuts):
    """Whether the cuts let no ring stand."""
    return ring_of(plan, cuts) is None


class Found:
    """A ring that was found, with its gaps, and these as bits in one number."""

    def __init__(self, ring, gaps, mask):
        self.ring = ring
        self.gaps = gaps
        self.mask = mask
        self.many = len(gaps)

    def payable(self, price, rest):
        """How many of the gaps can be cut for so much."""
        return len([gap for gap in self.gaps if cost_of(gap, price) <= rest])


class Pool:
    """The rings of a plan that are known so far, and the search for more. Ways are told by numbers of bits here."""

    def __init__(self, plan):
        self.web = Web(plan)
        self.known = []

    def known_on(self, way):
        """The known rings that have no gap in the way, those of fewest gaps first."""
        return [found for found in self.known if not found.mask & way]

    def standing(self, way):
        """Known rings that have no gap in the way, those of fewest gaps first; none only if there is no such ring."""
        standing = self.known_on(way)
        if not standing:
            self.learn(way)
            standing = self.known_on(way)
        return standing

    def learn(self, way):
        """Takes in rings that have no gap in the way: one of fewest gaps from each call on."""
        cuts = self.web.cuts_in(way)
        masks = {found.mask: True for found in self.known}
        for side in SIDES:
            for start in self.web.starts_on(side, cuts):
                ring = self.web.ring_from(side, start, way, len(self.web.gaps))
                if ring is not None:
                    gaps = gaps_of_ring(self.web.spots, ring)
                    mask = self.web.mask_of(gaps)
                    if mask not in masks:
                        masks[mask] = True
                        self.known.append(Found(ring, gaps, mask))
        self.known = sorted(self.known, key=lambda found: (found.many, found.mask))


def easiest(standing, price, rest):
    """Of some rings one with the fewest gaps that can be cut for so much."""
    ranks = [(found.payable(price, rest), found.many, place) for place, found in enumerate(standing)]
    return standing[min(ranks)[2]]


def count_apart(standing):
    """A number of rings of which no two have a gap in common: no fewer cuts leave none of them standing."""
    count = 0
    taken = 0
    for found in standing:
        if not found.mask & taken:
            taken = taken | found.mask
            count += 1
    return count


def good_way(pool, price, way, rest, failed):
    """A way that goes on from this one, for at most so much more, to good cuts; None if there is none."""
    if way in failed:
        return None
    standing = pool.standing(way)
    if not standing:
        return way
    # Each cut costs 1 at least, so rings that have nothing in common need as much as they are many.
    if count_apart(standing) <= rest:
        for gap in easiest(standing, price, rest).gaps:
            fee = cost_of(gap, price)
            if fee <= rest:
                further = good_way(pool, price, way | pool.web.bits[gap], rest - fee, failed)
                if further is not None:
                    return further
    failed[way] = True
    return None


def least_good(pool, price, most):
    """Good cuts of least cost, None if they cost more than most."""
    for rest in range(most + 1):
        way = good_way(pool, price, 0, rest, {})
        if way is not None:
            return pool.web.cuts_in(way)
    return None


def least_cuts(plan, price, most):
    """Good cuts of least cost; NeedsMore if they cost more than most."""
    cuts = least_good(Pool(plan), price, most)
    if cuts is None:
        raise NeedsMore(most)
    return cuts
