"""Sessions: machines that are edited, their checkpoints, and records of certificates."""

from gaprules.claims import decide, first_fault
from gaprules.errors import LimitExceeded, UnknownCheckpoint, UnknownRecord
from gaprules.machines import machine_of_kind, require_pair, twins_of
from gaprules.values import is_between

MOST_CHECKPOINTS = 8
MOST_RECORDS = 16


class Session:
    """A pair of machines of its own, with checkpoints and records."""

    def __init__(self, pair):
        require_pair(pair)
        self._machines = twins_of(pair)
        self._checkpoints = []
        self._certificates = []

    def pair(self):
        """Return twins of the machines as they are."""
        return twins_of(self._machines)

    def add_edge(self, kind, origin, sign, target):
        """Add an edge to the machine of this kind."""
        machine_of_kind(self._machines, kind).add_edge(origin, sign, target)

    def remove_edge(self, kind, origin, sign, target):
        """Remove an edge of the machine of this kind."""
        machine_of_kind(self._machines, kind).remove_edge(origin, sign, target)

    def add_start(self, kind, state):
        """Make the state of the machine of this kind a start and return whether it was none."""
        return machine_of_kind(self._machines, kind).add_start(state)

    def add_end(self, kind, state):
        """Make the state of the machine of this kind an end and return whether it was none."""
        return machine_of_kind(self._machines, kind).add_end(state)

    def remove_start(self, kind, state):
        """Let the state of the machine of this kind be no start and return whether it was one."""
        return machine_of_kind(self._machines, kind).remove_start(state)

    def remove_end(self, kind, state):
        """Let the state of the machine of this kind be no end and return whether it was one."""
        return machine_of_kind(self._machines, kind).remove_end(state)

    def checkpoint(self):
        """Keep the machines as they are and return the checkpoint's number."""
        if len(self._checkpoints) >= MOST_CHECKPOINTS:
            raise LimitExceeded(MOST_CHECKPOINTS)
        self._checkpoints.append(twins_of(self._machines))
        return len(self._checkpoints) - 1

    def restore(self, number):
        """Bring back the machines of the checkpoint."""
        if not is_between(number, 0, len(self._checkpoints) - 1):
            raise UnknownCheckpoint(number)
        # The checkpoint keeps its own machines, so that it can be restored again.
        self._machines = twins_of(self._checkpoints[number])

    def decide(self, claim):
        """Return the certificate that shows or breaks the claim for the machines as they are."""
        return decide(self._machines, claim)

    def record(self, claim):
        """Decide the claim, keep the certificate and return the record's number."""
        if len(self._certificates) >= MOST_RECORDS:
            raise LimitExceeded(MOST_RECORDS)
        self._certificates.append(decide(self._machines, claim))
        return len(self._certificates) - 1

    def recorded(self, number):
        """Return the certificate of the record."""
        if not is_between(number, 0, len(self._certificates) - 1):
            raise UnknownRecord(number)
        return self._certificates[number]

    def standing(self, number):
        """Return whether the record's certificate is right for the machines as they are."""
        return first_fault(self._machines, self.recorded(number)) is None
