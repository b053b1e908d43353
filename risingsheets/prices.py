"""Rows of ends of least cost, and the prices that show that none costs less."""

from risingsheets.basics import is_integer, is_tuple_of


def reached(stretches, places):
    """For each place the least cost up to it and the place ahead; None, as the cost, where no row of ends leads."""
    least = [0] + [None] * places
    back = [None] * (places + 1)
    # Stretches lead onward, so all that end where one begins come ahead of it.
    for begin, end, fee in sorted(stretches):
        if least[begin] is not None and (least[end] is None or least[begin] + fee < least[end]):
            least[end] = least[begin] + fee
            back[end] = begin
    return (least, back)


def least_row(stretches, places):
    """A row of ends of least cost, this cost, and prices that show it; None if there is no row of ends."""
    least, back = reached(stretches, places)
    if least[places] is None:
        return None
    ends = []
    place = places
    while place > 0:
        ends.append(place)
        place = back[place]
    # Places to which no row leads need a price, too: the greatest one lets no stretch from there rise too far.
    greatest = max([price for price in least if price is not None])
    prices = tuple([greatest if price is None else price for price in least])
    return (tuple(ends[::-1]), least[places], prices)


def prices_hold(stretches, places, cost, value):
    """Whether value is a tuple of prices the last one of which is the cost."""
    if not is_tuple_of(value, places + 1) or not all([is_integer(price) for price in value]):
        return False
    if value[0] != 0 or value[places] != cost:
        return False
    return all([value[end] <= value[begin] + fee for begin, end, fee in stretches])
