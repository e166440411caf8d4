"""Bases: the least strings that are not in a downset."""

from gaprules.downsets import Downset
from gaprules.errors import LimitExceeded
from gaprules.signs import SIGNS, in_order

MOST_PATTERNS = 243


def basis(pair, kind, depth):
    """Return the least strings that are not in D_kind(depth), in order."""
    downset = Downset(pair, kind, depth)
    bases = {}
    # A sign leaves a rest as it is or makes it smaller: so no rest waits for itself, and each
    # round finds some more whose later ones are done, until the whole set, rest 0, is done.
    while 0 not in bases:
        for rest in range(downset.rest_count()):
            behind = [later for later in downset.rows[rest] if later != rest]
            if all([later in bases for later in behind]):
                bases[rest] = basis_of_rest(downset, rest, bases)
    return in_order(bases[0])


def basis_of_rest(downset, rest, bases):
    """Return the least strings that are not in the rest, from those of the rests behind it."""
    if not downset.filled[rest]:
        return [""]
    found = []
    for at, later in enumerate(downset.rows[rest]):
        # A sign that leaves the rest as it is begins no least string.
        if later != rest:
            for string in bases[later]:
                if downset.filled[downset.rest_after(rest, string)]:
                    found.append(SIGNS[at] + string)
    # The whole set has at least as many patterns as any rest: each pattern of a later rest is
    # one of this rest, too, or becomes one with the sign in front of it.
    if len(found) > MOST_PATTERNS:
        raise LimitExceeded(MOST_PATTERNS)
    return found
