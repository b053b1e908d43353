"""What several modules need: kinds of values."""


def is_integer(value):
    """Whether value is an int that is not a bool."""
    return isinstance(value, int) and not isinstance(value, bool)


def is_within(value, low, high):
    """Whether value is an integer from low to high."""
    return is_integer(value) and low <= value <= high


def is_tuple_of(value, many):
    """Whether value is a tuple of just so many items."""
    return isinstance(value, tuple) and len(value) == many


def ascends(items):
    """Whether each item is less than the one behind it."""
    return all([low < high for low, high in zip(items, items[1:])])
