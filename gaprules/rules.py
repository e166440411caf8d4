"""Rules: blocks of patterns, of which the first that fits answers, and a last answer."""

from gaprules.errors import InvalidRules, LimitExceeded
from gaprules.machines import KINDS, is_kind, require_pair
from gaprules.progresses import Progresses
from gaprules.signs import contains, is_short_log
from gaprules.values import is_tuple_of
from gaprules.walks import first_string, letters_of, meets_more, targets_of

MOST_BLOCKS = 11
MOST_PATTERNS = 24
MOST_PATTERN_SIGNS = 24
MOST_PROGRESSES = 3000


def require_rules(value, signs):
    """Return the value if it has the form of rules over the first so many signs."""
    place = place_of_fault(value, signs)
    if place is not None:
        raise InvalidRules(place)
    return value


def answer_of(rules, log):
    """Return the answer of the rules for the log and the number of this answer."""
    blocks, last = rules
    for at, (answer, patterns) in enumerate(blocks):
        if any([contains(log, pattern) for pattern in patterns]):
            return (answer, at + 1)
    return (last, len(blocks) + 1)


def rules_fault(pair, rules):
    """Return None if the rules are right, else the kind and the first log with a wrong answer."""
    require_pair(pair)
    progresses = Progresses(rules)
    walks = [RulesWalk(machine, kind, progresses) for machine, kind in zip(pair, KINDS)]
    for walk in walks:
        if meets_more(walk, MOST_PROGRESSES):
            raise LimitExceeded(MOST_PROGRESSES)
    wrong = []
    for walk in walks:
        # A first string leads to no node twice, so it has fewer signs than there are nodes.
        log = first_string(walk, MOST_PROGRESSES)
        if log is not None:
            wrong.append((len(log), log, walk.kind))
    if not wrong:
        return None
    _, log, kind = min(wrong)
    return (kind, log)


def place_of_fault(value, signs):
    """Return the place of the first fault of the value as rules, or None."""
    if not is_tuple_of(value, 2, 2) or not is_tuple_of(value[0], 0, MOST_BLOCKS) or not is_kind(value[1]):
        return ()
    blocks, last = value
    before = None
    for at, block in enumerate(blocks):
        if not is_block(block) or block[0] == before:
            return (at,)
        for index, pattern in enumerate(block[1]):
            if not is_short_log(pattern, signs, MOST_PATTERN_SIGNS):
                return (at, index)
        before = block[0]
    return () if before == last else None


def is_block(value):
    """Return whether the value is an answer with a tuple of as many elements as patterns may be."""
    return is_tuple_of(value, 2, 2) and is_kind(value[0]) and is_tuple_of(value[1], 1, MOST_PATTERNS)


class RulesWalk:
    """The walk to the logs of a machine of this kind that get a wrong answer.

    A node is a state with the number of a progress.
    """

    def __init__(self, machine, kind, progresses):
        self.letters = letters_of(machine.signs)
        self.machine = machine
        self.targets = targets_of(machine)
        self.kind = kind
        self.progresses = progresses

    def first_nodes(self):
        """Return the nodes of the empty string."""
        return [(state, 0) for state in self.machine.starts()]

    def behind(self, node, sign):
        """Return the nodes to which the sign leads from the node."""
        state, progress = node
        targets = self.targets[state, sign]
        # Only progresses that a log may meet are worked out.
        if not targets:
            return []
        later = self.progresses.after(progress, sign)
        return [(target, later) for target in targets]

    def is_goal(self, node):
        """Return whether a string that leads to the node is such a log."""
        state, progress = node
        return self.machine.holds_end((state,)) and self.progresses.answer_at(progress) != self.kind
