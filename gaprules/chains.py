"""Chains: logs of alternate kinds, each contained in the next one."""

from gaprules.downsets import Levels
from gaprules.errors import LimitExceeded
from gaprules.ladders import ladder_or_barrier
from gaprules.machines import machine_of_kind, other_kind
from gaprules.signs import contains
from gaprules.walks import first_string, letters_of, targets_of

MOST_LOG_SIGNS = 200
MOST_DEPTH = 20


def chain_above(pair, kind, many, string):
    """Return the chain of so many logs above the string that begins with the kind, or None."""
    levels = Levels(pair)
    if not levels.rests_of(kind, many).has(string):
        return None
    return chain_of(levels, kind, many, string)


def depth_of(pair, kind):
    """Return the greatest length of a chain that begins with the kind, or None if it is endless."""
    levels = Levels(pair)
    if has_ladder(pair):
        return None
    depth = levels.first_empty(kind, MOST_DEPTH)
    if depth is None:
        raise LimitExceeded(MOST_DEPTH)
    return depth - 1


def is_chain(pair, kind, logs):
    """Return whether the logs are a chain that begins with the kind."""
    return chain_fault(pair, kind, logs) is None


def chain_fault(pair, kind, logs):
    """Return the first fault of the strings as a chain that begins with the kind, or None."""
    for at, log in enumerate(logs):
        if not machine_of_kind(pair, kind).has_log(log):
            return ("kind", at)
        if at + 1 < len(logs) and not contains(logs[at + 1], log):
            return ("contained", at)
        kind = other_kind(kind)
    return None


def has_ladder(pair):
    """Return whether the pair has a ladder, so that chains grow without end."""
    return ladder_or_barrier(pair)[0] == "ladder"


def chain_of(levels, kind, many, string):
    """Return the chain of so many logs above the string, which is in the set of kind and many."""
    logs = []
    for left in range(many - 1, -1, -1):
        other = other_kind(kind)
        machine = machine_of_kind(levels.machines, kind)
        string = first_string(LogWalk(machine, string, levels.rests_of(other, left)), MOST_LOG_SIGNS)
        # There is such a log, as the string is in the set: so it only is too long.
        if string is None:
            raise LimitExceeded(MOST_LOG_SIGNS)
        logs.append(string)
        kind = other
    return tuple(logs)


class LogWalk:
    """The walk to the logs of a machine that contain the string and are in the set of the rests.

    A node is a state with the number of the string's signs that are found and the rest.
    """

    def __init__(self, machine, string, rests):
        self.letters = letters_of(machine.signs)
        self.machine = machine
        self.targets = targets_of(machine)
        self.string = string
        self.rests = rests

    def first_nodes(self):
        """Return the nodes of the empty string."""
        return [(state, 0, 0) for state in self.machine.starts()]

    def behind(self, node, sign):
        """Return the nodes to which the sign leads from the node."""
        state, found, rest = node
        later = self.rests.after(rest, sign)
        # No string leads from a rest without strings to a goal.
        if not self.rests.filled[later]:
            return []
        if self.string[found:found + 1] == sign:
            found += 1
        return [(target, found, later) for target in self.targets[state, sign]]

    def is_goal(self, node):
        """Return whether a string that leads to the node is such a log."""
        state, found, _ = node
        return found == len(self.string) and self.machine.holds_end((state,))
