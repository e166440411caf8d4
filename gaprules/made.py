"""Made rules: right rules with the fewest answers, from the bases of downsets."""

from gaprules.bases import least_outside
from gaprules.chains import has_ladder
from gaprules.downsets import Levels
from gaprules.errors import Endless, LimitExceeded
from gaprules.machines import other_kind
from gaprules.rules import MOST_PATTERN_SIGNS, MOST_PATTERNS

MOST_ANSWERS = 12


def fewest_answers(pair, last):
    """Return the fewest answers of right rules with this last answer, or None if there are none."""
    levels = Levels(pair)
    if has_ladder(pair):
        return None
    return answers_needed(levels, last)


def made_rules(pair, last):
    """Return right rules with this last answer and the fewest answers."""
    levels = Levels(pair)
    if has_ladder(pair):
        raise Endless()
    return rules_with(levels, last, answers_needed(levels, last))


def answers_needed(levels, last):
    """Return the fewest answers where there is no ladder; raise if chains are too long for rules."""
    # The other kind's longest chain has one log less than the first empty set is deep.
    answers = levels.first_empty(other_kind(last), MOST_ANSWERS)
    if answers is None:
        raise LimitExceeded(MOST_ANSWERS)
    return answers


def rules_with(levels, last, answers):
    """Return the rules of so many answers, the fewest ones with this last answer."""
    blocks = []
    kind = last
    for depth in range(answers - 1, 0, -1):
        # What no chain of depth logs beginning with the kind contains is answered otherwise.
        blocks.append((other_kind(kind), patterns_outside(levels.rests_of(kind, depth))))
        kind = other_kind(kind)
    return (tuple(reversed(blocks)), last)


def patterns_outside(rests):
    """Return the basis of the set as a block's patterns; raise if it is too large for them."""
    patterns = least_outside(rests, MOST_PATTERNS)
    # They are in order, so the last one is the longest.
    if len(patterns[-1]) > MOST_PATTERN_SIGNS:
        raise LimitExceeded(MOST_PATTERN_SIGNS)
    return patterns
