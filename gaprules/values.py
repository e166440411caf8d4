"""Values of any kind: what is an integer or a tuple within bounds."""


def is_between(value, low, high):
    """Return whether the value is an integer from low to high."""
    # Python counts True and False as integers, the document does not.
    return isinstance(value, int) and not isinstance(value, bool) and low <= value <= high


def is_tuple_of(value, least, most):
    """Return whether the value is a tuple of at least and at most so many elements."""
    return isinstance(value, tuple) and least <= len(value) <= most
