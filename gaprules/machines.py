"""Machines that describe logs: states, edges with signs, starts and ends."""

from gaprules.errors import EdgeExists, LimitExceeded, Unpaired, UnknownEdge, UnknownState
from gaprules.signs import SIGNS, require_sign
from gaprules.values import is_between

MOST_SIGNS = 3
MOST_STATES = 6
MOST_EDGES = 14
KINDS = "AB"


class Machine:
    """A machine over the first signs, with states that are numbered from 0."""

    def __init__(self, signs, states):
        if not is_between(signs, 1, MOST_SIGNS):
            raise LimitExceeded(MOST_SIGNS)
        if not is_between(states, 1, MOST_STATES):
            raise LimitExceeded(MOST_STATES)
        self.signs = signs
        self.states = states
        self._edges = {}
        self._starts = {}
        self._ends = {}

    def add_edge(self, origin, sign, target):
        """Add an edge that is not there yet."""
        self._require_state(origin)
        self._require_state(target)
        require_sign(sign, self.signs)
        edge = (origin, sign, target)
        if edge in self._edges:
            raise EdgeExists(edge)
        if len(self._edges) >= MOST_EDGES:
            raise LimitExceeded(MOST_EDGES)
        self._edges[edge] = True

    def remove_edge(self, origin, sign, target):
        """Remove an edge that is there."""
        edge = (origin, sign, target)
        if edge not in self._edges:
            raise UnknownEdge(edge)
        del self._edges[edge]

    def add_start(self, state):
        """Make the state a start and return whether it was none."""
        self._require_state(state)
        return put_in(self._starts, state)

    def add_end(self, state):
        """Make the state an end and return whether it was none."""
        self._require_state(state)
        return put_in(self._ends, state)

    def remove_start(self, state):
        """Let the state be no start and return whether it was one."""
        self._require_state(state)
        return take_out(self._starts, state)

    def remove_end(self, state):
        """Let the state be no end and return whether it was one."""
        self._require_state(state)
        return take_out(self._ends, state)

    def edges(self):
        """Return the edges, ascending by origin, sign and target."""
        return tuple(sorted(self._edges))

    def starts(self):
        """Return the starts, ascending."""
        return tuple(sorted(self._starts))

    def ends(self):
        """Return the ends, ascending."""
        return tuple(sorted(self._ends))

    def twin(self):
        """Return an equal machine that lives by itself."""
        other = Machine(self.signs, self.states)
        for origin, sign, target in self.edges():
            other.add_edge(origin, sign, target)
        for state in self.starts():
            other.add_start(state)
        for state in self.ends():
            other.add_end(state)
        return other

    def states_after(self, log):
        """Return the states to which the log leads from the starts, ascending."""
        return self.states_behind(self.starts(), log)

    def states_behind(self, states, log):
        """Return the states to which the log leads from the tuple of states, ascending."""
        for sign in log:
            states = self._behind(states, sign)
        return states

    def states_beyond(self, states):
        """Return the states to which strings lead from the states, themselves included, ascending."""
        found = list(states)
        at = 0
        while at < len(found):
            for origin, _, target in self.edges():
                if origin == found[at] and target not in found:
                    found.append(target)
            at += 1
        return tuple(sorted(found))

    def holds_end(self, states):
        """Return whether one of the states is an end."""
        return any([state in self._ends for state in states])

    def has_log(self, log):
        """Return whether the log leads from a start to an end."""
        return self.holds_end(self.states_after(log))

    def first_log(self):
        """Return the machine's first log by length and then by alphabet, or None."""
        level = [("", self.starts())]
        seen = {self.starts(): True}
        while level:
            for log, states in level:
                if self.holds_end(states):
                    return log
            level = self._next_level(level, seen)
        return None

    def _next_level(self, level, seen):
        # What follows a string hangs on its states alone, and a level is in order:
        # so the first string that leads to some states stands for all later ones.
        longer = []
        for log, states in level:
            for sign in SIGNS[:self.signs]:
                behind = self._behind(states, sign)
                if behind not in seen:
                    seen[behind] = True
                    longer.append((log + sign, behind))
        return longer

    def _behind(self, states, sign):
        return tuple(sorted({
            target for origin, letter, target in self._edges if letter == sign and origin in states
        }))

    def _require_state(self, state):
        if not is_between(state, 0, self.states - 1):
            raise UnknownState(state)


def put_in(states, state):
    """Put the state into the dict of states and return whether it was missing."""
    missing = state not in states
    states[state] = True
    return missing


def take_out(states, state):
    """Take the state out of the dict of states and return whether it was there."""
    there = state in states
    if there:
        del states[state]
    return there


def is_kind(value):
    """Return whether the value is "A" or "B"."""
    return value == "A" or value == "B"


def require_pair(pair):
    """Raise Unpaired if the two machines have different numbers of signs."""
    one, two = pair
    if one.signs != two.signs:
        raise Unpaired()


def twins_of(pair):
    """Return a pair of equal machines that live by themselves."""
    one, two = pair
    return (one.twin(), two.twin())


def machine_of_kind(pair, kind):
    """Return the pair's machine of this kind."""
    return pair[KINDS.index(kind)]


def other_kind(kind):
    """Return the kind that is not this one."""
    return KINDS[1 - KINDS.index(kind)]
