"""What the checks ask of a value of which nothing is known."""


def is_integer(value):
    """Tell whether the value is an integer; True and False are none."""
    return isinstance(value, int) and not isinstance(value, bool)


def is_number(value, low, high):
    """Tell whether the value is an integer from low to high."""
    return is_integer(value) and low <= value <= high


def is_index(value, many):
    """Tell whether the value is the index of one of so many things."""
    return is_number(value, 0, many - 1)


def is_tuple(value, low, high):
    """Tell whether the value is a tuple of low to high items."""
    return isinstance(value, tuple) and low <= len(value) <= high


def is_ascending(items):
    """Tell whether each item is less than the next one."""
    return all(one < other for one, other in zip(items, items[1:]))


def all_differ(items):
    """Tell whether no item stands twice."""
    return len(set(items)) == len(items)
