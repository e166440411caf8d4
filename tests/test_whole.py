"""The main guarantee of the document, for pairs of machines after histories of edits."""

import random
import unittest

from gaprules.claims import decide, first_fault
from gaprules.errors import LimitExceeded
from gaprules.ladders import ladder_or_barrier
from gaprules.sessions import Session
from gaprules.texts import format_pair, format_rules, parse_pair, parse_rules
from tests.helpers import ProgramCase, random_machine, random_pairs
from tests.test_claims import BOUNDED, CLAIMS, SORTABLE, pairs_at_limits, wanted

FEW_CLAIMS = [BOUNDED, SORTABLE, ("within", "A", 1), ("within", "B", 2), ("within", "A", 3), ("within", "B", 12)]


def edit_somehow(session, source):
    """Put in or take out a start, an end or an edge, as it comes."""
    side = source.randrange(2)
    machine, kind = session.pair()[side], "AB"[side]
    what = source.choice(("edge", "edge", "edge", "start", "end"))
    if what == "edge":
        edge = (source.randrange(machine.states), source.choice("abc"[:machine.signs]), source.randrange(machine.states))
        if edge in machine.edges():
            session.remove_edge(kind, *edge)
        elif len(machine.edges()) < 14:
            session.add_edge(kind, *edge)
        elif machine.edges():
            session.remove_edge(kind, *source.choice(machine.edges()))
    else:
        state = source.randrange(machine.states)
        there = machine.starts() if what == "start" else machine.ends()
        getattr(session, ("remove_" if state in there else "add_") + what)(kind, state)


class GuaranteeTest(ProgramCase):
    def check_claim(self, session, claim):
        """Decide returns what the checker accepts, or raises exactly where it is to; return the certificate."""
        answer = wanted(session.pair(), claim)
        if isinstance(answer, int):
            self.assertEqual(self.raised(LimitExceeded, session.decide, claim).limit, answer)
            return None
        certificate = session.decide(claim)
        self.assertEqual(certificate, answer)
        self.assertIn(certificate[0], ("shown", "broken"))
        self.assertEqual(certificate[1], claim)
        self.assertIsNone(first_fault(session.pair(), certificate))
        return certificate

    def check_no_other(self, pair, certificate, others):
        """None of the other certificates that the checker accepts says the contrary."""
        for other in others:
            if other[1] == certificate[1] and other[0] != certificate[0]:
                self.assertIsNotNone(first_fault(pair, other), (certificate, other))

    def test_histories_of_edits(self):
        source = random.Random(7)
        words = {}
        for signs in (1, 2, 3):
            for _ in range(8):
                session = Session(tuple(random_machine(source, signs, source.randint(2, 6), 7) for _ in "AB"))
                found = []
                for step in range(12):
                    edit_somehow(session, source)
                    if step % 4 == 1:
                        session.checkpoint()
                    elif step % 4 == 3:
                        session.restore(source.randrange(step // 4 + 1))
                    now = [self.check_claim(session, claim) for claim in FEW_CLAIMS]
                    now = [certificate for certificate in now if certificate is not None]
                    found.extend(certificate for certificate in now if certificate not in found)
                    for certificate in now:
                        self.check_no_other(session.pair(), certificate, found)
                        key = certificate[0], certificate[1][0]
                        words[key] = words.get(key, 0) + 1
        self.assertEqual(len(words), 6)
        self.assertGreater(min(words.values()), 10)

    def test_answers_depend_on_the_machines_as_they_are(self):
        # However the machines came to be what they are.
        source = random.Random(8)
        for _ in range(15):
            session = Session(random_pairs(1, 2, 4, 7)[0])
            for _ in range(10):
                edit_somehow(session, source)
            written = parse_pair(format_pair(session.pair()))
            for claim in FEW_CLAIMS:
                first, second = [self.answer(call, claim) for call in (
                    session.decide, lambda claim: decide(written, claim))]
                self.assertEqual(first, second)

    def answer(self, call, claim):
        try:
            return call(claim)
        except LimitExceeded as error:
            return error.limit

    def test_no_claim_has_certificates_of_both_kinds(self):
        for signs in (1, 2):
            pairs = random_pairs(10, signs, 3, 5)
            certificates = []
            for pair in pairs:
                for claim in CLAIMS[:8] + CLAIMS[14:18]:
                    certificates.append(decide(pair, claim))
            for pair in pairs:
                accepted = {}
                for certificate in certificates:
                    if first_fault(pair, certificate) is None:
                        accepted.setdefault(certificate[1], set()).add(certificate[0])
                for claim, words in accepted.items():
                    self.assertEqual(len(words), 1, claim)
                    self.assertEqual(words, {decide(pair, claim)[0]})

    def test_claims_agree(self):
        # With more answers more can be shown, and within agrees with sortable and bounded.
        for signs in (1, 2, 3):
            for pair in random_pairs(12, signs, 4, 7):
                words = {claim: decide(pair, claim)[0] for claim in CLAIMS}
                barrier = ladder_or_barrier(pair)[0] == "barrier"
                self.assertEqual(words[BOUNDED] == "shown", barrier)
                self.assertEqual(words[SORTABLE] == "shown", barrier)
                for last in "AB":
                    line = [words["within", last, most] for most in range(1, 13)]
                    self.assertEqual(line, sorted(line))
                    self.assertEqual("shown" in line, barrier)

    def test_rules_of_certificates_are_written_and_read(self):
        for pair in pairs_at_limits():
            for claim in FEW_CLAIMS:
                certificate = self.answer(lambda claim: decide(pair, claim), claim)
                if not isinstance(certificate, int) and certificate[0] == "shown" and claim != BOUNDED:
                    text = format_rules(certificate[2])
                    self.assertEqual(parse_rules(text, pair[0].signs), certificate[2])


if __name__ == "__main__":
    unittest.main()
