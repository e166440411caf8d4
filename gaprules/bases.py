"""Bases: the least strings that are not in a downset."""

from gaprules.downsets import Downset
from gaprules.errors import LimitExceeded
from gaprules.signs import SIGNS, in_order

MOST_PATTERNS = 243


def basis(pair, kind, depth):
    """Return the least strings that are not in D_kind(depth), in order."""
    return least_outside(Downset(pair, kind, depth).rests, MOST_PATTERNS)


def least_outside(rests, most):
    """Return the least strings that are not in the set; raise if these are more than most."""
    bases = {}
    # A sign leaves a rest as it is or makes it smaller: so no rest waits for itself, and each
    # round finds some more whose later ones are done, until the whole set, rest 0, is done.
    while 0 not in bases:
        for rest, row in enumerate(rests.rows):
            if rest not in bases and all([later in bases for later in row if later != rest]):
                bases[rest] = least_outside_rest(rests, rest, bases)
                # The whole set has at least as many patterns as any rest: each pattern of a
                # later rest is one of this rest, too, or becomes one with the sign in front of it.
                if len(bases[rest]) > most:
                    raise LimitExceeded(most)
    return in_order(bases[0])


def least_outside_rest(rests, rest, bases):
    """Return the least strings that are not in the rest, from those of the rests behind it."""
    if not rests.filled[rest]:
        return [""]
    found = []
    for at, later in enumerate(rests.rows[rest]):
        # A sign that leaves the rest as it is begins no least string.
        if later != rest:
            for string in bases[later]:
                if rests.filled[rests.after(rest, string)]:
                    found.append(SIGNS[at] + string)
    return found
