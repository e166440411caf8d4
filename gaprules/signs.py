"""Signs, logs and patterns: what contains what, and the order of strings."""

from gaprules.errors import NotALog

SIGNS = "abc"


def require_log(value, signs):
    """Return the value if it is a string of the first so many signs."""
    if not is_log(value, signs):
        raise NotALog(value)
    return value


def is_log(value, signs):
    """Return whether the value is a string of the first so many signs."""
    return isinstance(value, str) and all([letter in SIGNS[:signs] for letter in value])


def is_short_log(value, signs, most):
    """Return whether the value is a string of at most so many of these signs."""
    return is_log(value, signs) and len(value) <= most


def require_sign(value, signs):
    """Return the value if it is one of the first so many signs."""
    if not is_sign(value, signs):
        raise NotALog(value)
    return value


def is_sign(value, signs):
    """Return whether the value is one of the first so many signs."""
    return is_log(value, signs) and len(value) == 1


def positions(log, pattern):
    """Return where the pattern's signs stand in the log, each as early as possible, or None."""
    found = []
    at = 0
    for sign in pattern:
        place = log.find(sign, at)
        if place < 0:
            return None
        found.append(place)
        at = place + 1
    return tuple(found)


def contains(log, pattern):
    """Return whether the pattern's signs stand in the log in this order."""
    return positions(log, pattern) is not None


def progress_of(log, pattern):
    """Return how many signs of the pattern are found in the log, taken from the left."""
    found = 0
    for sign in log:
        if found < len(pattern) and pattern[found] == sign:
            found += 1
    return found


def in_order(strings):
    """Return the strings by length, then by alphabet, each once."""
    keyed = sorted({(len(text), text) for text in strings})
    return tuple([string for _, string in keyed])


def least_strings(strings):
    """Return those of the strings that contain no other one of them, in order."""
    least = []
    for string in in_order(strings):
        # A string contains only earlier ones, and with one of these a least one.
        if not any([contains(string, smaller) for smaller in least]):
            least.append(string)
    return tuple(least)
