"""What several files ask of an argument that may be anything."""


def is_integer(thing):
    """Whether thing is an integer, as the document means it: a bool is none."""
    return isinstance(thing, int) and not isinstance(thing, bool)


def is_between(thing, low, high):
    """Whether thing is an integer from low to high."""
    return is_integer(thing) and low <= thing <= high
