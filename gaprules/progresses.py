"""Progresses: how many signs of each pattern of rules a log has found so far."""


class Progresses:
    """The progresses of rules, numbered as they are met; 0 is that of the empty string."""

    def __init__(self, rules):
        blocks, last = rules
        self.answers = [answer for answer, _ in blocks] + [last]
        # A pattern with its block's index, and behind its signs a mark that no sign fits.
        self.patterns = [
            (pattern + ".", at) for at, (_, patterns) in enumerate(blocks) for pattern in patterns
        ]
        self.met = []
        self.places = []
        self.numbers = {}
        self.known = {}
        self._number_of(tuple([0 for _ in self.patterns]))

    def after(self, number, sign):
        """Return the number of the progress to which the sign leads."""
        key = (number, sign)
        if key not in self.known:
            self.known[key] = self._number_of(tuple([
                found + 1 if pattern[found] == sign else found
                for found, (pattern, _) in zip(self.met[number], self.patterns)
            ]))
        return self.known[key]

    def answer_at(self, number):
        """Return the answer at the progress of this number."""
        return self.answers[self.places[number]]

    def _number_of(self, progress):
        if progress not in self.numbers:
            self.numbers[progress] = len(self.met)
            self.met.append(progress)
            self.places.append(self._place_of(progress))
        return self.numbers[progress]

    def _place_of(self, progress):
        # The index of the first block of which a pattern is found, else that of the last answer.
        for found, (pattern, at) in zip(progress, self.patterns):
            if pattern[found] == ".":
                return at
        return len(self.answers) - 1
