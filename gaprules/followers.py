"""Followers, which read a log sign by sign and tell what it is and what may come."""

from gaprules.errors import LimitExceeded
from gaprules.machines import KINDS, require_pair, twins_of
from gaprules.progresses import Progresses
from gaprules.rules import MOST_PROGRESSES, require_rules
from gaprules.signs import require_sign
from gaprules.walks import letters_of


class RuleFollower:
    """Tells the answer of the rules for what is read so far, and which changes may come."""

    def __init__(self, rules, signs):
        self._progresses = Progresses(require_rules(rules, signs))
        self._signs = signs
        self._here = 0
        meet_all(self._progresses, letters_of(signs))
        self._ways = changing_ways(self._progresses, letters_of(signs))

    def read(self, sign):
        """Read the next sign of the log."""
        require_sign(sign, self._signs)
        self._here = self._progresses.after(self._here, sign)

    def answer(self):
        """Return the answer for what is read so far."""
        return self._progresses.answer_at(self._here)

    def answer_number(self):
        """Return the number of the answer, 1 for the first block."""
        return self._progresses.places[self._here] + 1

    def most_changes(self):
        """Return the most changes that a continuation can bring, with such a continuation."""
        count, _ = self._ways[self._here]
        string = ""
        at = self._here
        while self._ways[at][0] > 0:
            sign = self._ways[at][1]
            string += sign
            at = self._progresses.after(at, sign)
        return (count, string)

    def is_settled(self):
        """Return whether no continuation brings a change."""
        return self._ways[self._here][0] == 0


class KindFollower:
    """Tells of which kinds what is read so far is a log, and of which kinds it may become one."""

    def __init__(self, pair):
        require_pair(pair)
        self._machines = twins_of(pair)
        self._behind = [machine.starts() for machine in pair]

    def read(self, sign):
        """Read the next sign of the log."""
        require_sign(sign, self._machines[0].signs)
        self._behind = [
            machine.states_behind(states, sign) for machine, states in zip(self._machines, self._behind)
        ]

    def is_now(self):
        """Return the kinds of which what is read so far is a log."""
        return tuple([
            kind for kind, machine, states in zip(KINDS, self._machines, self._behind)
            if machine.holds_end(states)
        ])

    def can_become(self):
        """Return the kinds of which what is read so far is a log or the beginning of one."""
        return tuple([
            kind for kind, machine, states in zip(KINDS, self._machines, self._behind)
            if machine.holds_end(machine.states_beyond(states))
        ])

    def is_settled(self):
        """Return whether at most one kind is left."""
        return len(self.can_become()) <= 1


def meet_all(progresses, letters):
    """Let the progresses meet all that strings of these letters lead to; raise if these are too many."""
    number = 0
    while number < len(progresses.met):
        for sign in letters:
            progresses.after(number, sign)
        if len(progresses.met) > MOST_PROGRESSES:
            raise LimitExceeded(MOST_PROGRESSES)
        number += 1


def changing_ways(progresses, letters):
    """Return for each progress the most changes that can come, and the sign of a step to them."""
    # A step that leads elsewhere finds a sign more, so what lies behind is worked out first.
    totals = sorted([(sum(progress), number) for number, progress in enumerate(progresses.met)], reverse=True)
    ways = {}
    for _, number in totals:
        ways[number] = (0, "")
        for sign in letters:
            later = progresses.after(number, sign)
            if later != number:
                changed = progresses.answer_at(later) != progresses.answer_at(number)
                count = ways[later][0] + (1 if changed else 0)
                if count > ways[number][0]:
                    ways[number] = (count, sign)
    return ways
