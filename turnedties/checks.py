"""What several files ask of an argument that may be anything."""


def is_integer(thing):
    """Whether thing is an integer, as the document means it: a bool is none."""
    return isinstance(thing, int) and not isinstance(thing, bool)


def is_between(thing, low, high):
    """Whether thing is an integer from low to high."""
    return is_integer(thing) and low <= thing <= high


def is_worded(thing, count):
    """Whether thing is a tuple of that many entries, the first of them a text."""
    if not isinstance(thing, tuple) or len(thing) != count:
        return False
    # Only a text is asked which word it is: an object may refuse to be compared.
    return isinstance(thing[0], str)


def are_different(thing, count):
    """Whether thing is a list or tuple of different integers from 0 to count - 1."""
    if not isinstance(thing, (list, tuple)) or len(thing) > count:
        return False
    if not all([is_between(entry, 0, count - 1) for entry in thing]):
        return False
    return len(set(thing)) == len(thing)
