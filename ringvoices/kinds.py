"""What kind of value a thing is, whatever it is."""


def is_integer(thing):
    """Whether a thing is an integer: a bool is none."""
    return isinstance(thing, int) and not isinstance(thing, bool)


def is_integers(thing):
    """Whether a thing is a tuple of integers, perhaps ()."""
    return isinstance(thing, tuple) and all([is_integer(item) for item in thing])


def is_ascending(items):
    """Whether items that can be compared are sorted, none of them twice."""
    return all([items[k] < items[k + 1] for k in range(len(items) - 1)])
