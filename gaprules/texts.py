"""Texts: pairs of machines and rules, written as lines and read back."""

from gaprules.errors import ParseError
from gaprules.machines import MOST_EDGES, MOST_SIGNS, MOST_STATES, Machine, is_kind
from gaprules.rules import MOST_BLOCKS, MOST_PATTERN_SIGNS, MOST_PATTERNS
from gaprules.signs import is_short_log, is_sign

EMPTY = "-"


def format_pair(pair):
    """Return the text of the pair of machines."""
    lines = [f"signs {pair[0].signs}"]
    for machine in pair:
        lines.append(f"machine {machine.states}")
        lines.append(" ".join(["starts"] + [str(state) for state in machine.starts()]))
        lines.append(" ".join(["ends"] + [str(state) for state in machine.ends()]))
        lines.extend([f"edge {origin} {sign} {target}" for origin, sign, target in machine.edges()])
    return text_of(lines)


def format_rules(rules):
    """Return the text of the rules."""
    blocks, last = rules
    lines = [" ".join([answer + ":"] + [pattern or EMPTY for pattern in patterns]) for answer, patterns in blocks]
    return text_of(lines + [f"else {last}"])


def parse_pair(text):
    """Return the pair of machines that the text tells of."""
    reader = PairReader()
    read_lines(text, reader)
    one, two = reader.machines
    return (one, two)


def parse_rules(text, signs):
    """Return the rules over the first so many signs that the text tells of."""
    reader = RulesReader(signs)
    read_lines(text, reader)
    return (tuple(reader.blocks), reader.last)


def text_of(lines):
    """Return the text in which each line ends with a line end."""
    return "".join([line + "\n" for line in lines])


def read_lines(text, reader):
    """Let the reader take all lines of the text; raise at the first one that does not fit."""
    *lines, rest = text.split("\n")
    for at, line in enumerate(lines):
        word, *others = line.split(" ")
        if not reader.takes(word, others):
            raise ParseError(at)
    if rest != "" or not reader.is_done():
        raise ParseError(len(lines))


def number_of(word, low, high):
    """Return the integer from low to high that the word is, or None."""
    # Compared as words, so that leading zeros and signs do not fit.
    for number in range(low, high + 1):
        if word == str(number):
            return number
    return None


class PairReader:
    """Reads the lines of a pair of machines, each of which fits those before it."""

    def __init__(self):
        self.signs = None
        self.machines = []
        # Which line comes next: edges may be any number of lines, or none.
        self.wanted = "signs"

    def takes(self, word, others):
        """Take the line of this word and the others behind it; return whether it fits."""
        if self.wanted == "edge" and word == "machine" and len(self.machines) == 1:
            self.wanted = "machine"
        if word != self.wanted:
            return False
        if word == "signs":
            return self._takes_signs(others)
        if word == "machine":
            return self._takes_machine(others)
        if word == "edge":
            return self._takes_edge(others)
        return self._takes_states(word, others)

    def is_done(self):
        """Return whether the text may end here."""
        return self.wanted == "edge" and len(self.machines) == 2

    def _takes_signs(self, others):
        if len(others) == 1:
            self.signs = number_of(others[0], 1, MOST_SIGNS)
        self.wanted = "machine"
        return self.signs is not None

    def _takes_machine(self, others):
        states = number_of(others[0], 1, MOST_STATES) if len(others) == 1 else None
        if states is None:
            return False
        self.machines.append(Machine(self.signs, states))
        self.wanted = "starts"
        return True

    def _takes_states(self, word, others):
        machine = self.machines[-1]
        before = -1
        for other in others:
            state = number_of(other, before + 1, machine.states - 1)
            if state is None:
                return False
            if word == "starts":
                machine.add_start(state)
            else:
                machine.add_end(state)
            before = state
        self.wanted = "ends" if word == "starts" else "edge"
        return True

    def _takes_edge(self, others):
        machine = self.machines[-1]
        edges = machine.edges()
        if len(others) != 3 or len(edges) >= MOST_EDGES or not is_sign(others[1], machine.signs):
            return False
        origin = number_of(others[0], 0, machine.states - 1)
        target = number_of(others[2], 0, machine.states - 1)
        if origin is None or target is None or (edges and (origin, others[1], target) <= edges[-1]):
            return False
        machine.add_edge(origin, others[1], target)
        return True


class RulesReader:
    """Reads the lines of rules, each of which fits those before it."""

    def __init__(self, signs):
        self.signs = signs
        self.blocks = []
        self.last = None

    def takes(self, word, others):
        """Take the line of this word and the others behind it; return whether it fits."""
        if self.is_done():
            return False
        if word == "else":
            return self._takes_last(others)
        return self._takes_block(word, others)

    def is_done(self):
        """Return whether the text may end here."""
        return self.last is not None

    def _takes_last(self, others):
        if len(others) != 1 or not self._may_answer(others[0]):
            return False
        self.last = others[0]
        return True

    def _takes_block(self, word, others):
        answer = word[:1]
        if word != answer + ":" or not self._may_answer(answer) or len(self.blocks) >= MOST_BLOCKS:
            return False
        if not 1 <= len(others) <= MOST_PATTERNS or not all([self._is_written(other) for other in others]):
            return False
        self.blocks.append((answer, tuple(["" if other == EMPTY else other for other in others])))
        return True

    def _may_answer(self, answer):
        # Neighbouring answers differ.
        return is_kind(answer) and (not self.blocks or answer != self.blocks[-1][0])

    def _is_written(self, word):
        return word == EMPTY or (word != "" and is_short_log(word, self.signs, MOST_PATTERN_SIGNS))
