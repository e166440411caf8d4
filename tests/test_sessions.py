import unittest
from itertools import permutations

from gaprules import sessions
from gaprules.claims import decide, first_fault
from gaprules.errors import (
    EdgeExists, InvalidClaim, LimitExceeded, NotALog, Unpaired, UnknownCheckpoint, UnknownEdge, UnknownRecord,
    UnknownState,
)
from gaprules.machines import Machine
from gaprules.sessions import Session
from tests.helpers import ProgramCase, example_pair, look_of, machine_of, pair_of_46, random_pairs
from tests.pairs import pair_of_3001, pair_of_12_and_13, pair_of_25_patterns, pair_of_46_for_b, pair_of_log_201

BOUNDED, SORTABLE = ("bounded",), ("sortable",)
CLAIMS = [BOUNDED, SORTABLE] + [("within", last, most) for last in "AB" for most in (1, 2, 3, 4, 12)]
NO_NUMBERS = (-1, 1, 2, 8, 16, 100, 10 ** 29, -10 ** 29)


def looks_of(pair):
    return [look_of(machine) for machine in pair]


class SessionCase(ProgramCase):
    def check_pair(self, session, pair):
        self.assertEqual(looks_of(session.pair()), looks_of(pair))


class PairTest(SessionCase):
    def test_twins_are_kept(self):
        one, two = example_pair()
        session = Session((one, two))
        one.add_edge(1, "b", 1)
        one.add_end(0)
        two.remove_edge(0, "a", 1)
        two.remove_start(0)
        self.check_pair(session, example_pair())
        self.assertEqual(session.decide(("within", "B", 2))[2], ("a", "ab"))

    def test_twins_are_returned(self):
        session = Session(example_pair())
        found = session.pair()
        self.assertEqual((type(found), len(found)), (tuple, 2))
        for machine in found:
            self.assertIs(type(machine), Machine)
        one, two = found
        one.remove_edge(0, "a", 1)
        two.add_end(0)
        two.remove_start(0)
        self.check_pair(session, example_pair())
        session.add_end("A", 0)
        self.assertEqual(one.ends(), (1,))
        self.assertEqual(session.pair()[0].ends(), (0, 1))

    def test_one_machine_twice(self):
        machine = machine_of(2, 3, "0a1 1b2", (0,), (2,))
        session = Session((machine, machine))
        session.add_end("A", 1)
        session.remove_start("B", 0)
        one, two = session.pair()
        self.assertEqual((one.starts(), one.ends(), two.starts(), two.ends()), ((0,), (1, 2), (), (2,)))
        self.assertEqual((machine.starts(), machine.ends()), ((0,), (2,)))

    def test_two_sessions_of_one_pair(self):
        pair = example_pair()
        one, two = Session(pair), Session(pair)
        one.add_edge("A", 1, "b", 1)
        one.checkpoint()
        one.record(BOUNDED)
        self.check_pair(two, example_pair())
        self.raised(UnknownCheckpoint, two.restore, 0)
        self.raised(UnknownRecord, two.recorded, 0)
        two.remove_start("B", 0)
        self.assertEqual(two.record(("within", "A", 1)), 0)
        self.assertEqual(one.recorded(0)[1], BOUNDED)
        self.assertEqual(one.pair()[1].starts(), (0,))
        self.assertEqual(looks_of(pair), looks_of(example_pair()))

    def test_unpaired(self):
        for one, two in permutations((1, 2, 3), 2):
            self.raised(Unpaired, Session, (Machine(one, 2), Machine(two, 2)))
        self.raised(Unpaired, Session, pair_of_46(3))


class EditTest(SessionCase):
    def test_edits_reach_the_machine_of_their_kind(self):
        edits = (
            ("add_edge", (1, "b", 0), None), ("add_edge", (0, "b", 0), None), ("remove_edge", (0, "a", 1), None),
            ("add_start", (1,), True), ("add_start", (1,), False), ("add_end", (0,), True), ("add_end", (0,), False),
            ("remove_start", (0,), True), ("remove_start", (0,), False), ("remove_end", (0,), True),
            ("remove_end", (0,), False),
        )
        for side, kind in enumerate("AB"):
            session, pair = Session(example_pair()), example_pair()
            for name, arguments, wanted in edits:
                found = getattr(session, name)(kind, *arguments)
                self.assertIs(found, wanted)
                self.assertIs(getattr(pair[side], name)(*arguments), wanted)
                self.check_pair(session, pair)

    def test_edits_by_name(self):
        session, pair = Session(example_pair()), example_pair()
        self.assertIsNone(session.add_edge(target=0, sign="b", origin=2, kind="B"))
        self.assertIsNone(session.remove_edge(target=1, sign="a", origin=0, kind="A"))
        self.assertIs(session.add_start(state=1, kind="A"), True)
        self.assertIs(session.add_end(state=0, kind="B"), True)
        self.assertIs(session.remove_start(state=0, kind="B"), True)
        self.assertIs(session.remove_end(state=1, kind="A"), True)
        pair[1].add_edge(2, "b", 0)
        pair[0].remove_edge(0, "a", 1)
        pair[0].add_start(1)
        pair[1].add_end(0)
        pair[1].remove_start(0)
        pair[0].remove_end(1)
        self.check_pair(session, pair)
        session.add_edge("B", 0, target=0, sign="b")
        pair[1].add_edge(0, "b", 0)
        self.check_pair(session, pair)

    def test_errors_of_the_machine(self):
        session = Session(example_pair())
        for kind, states in (("A", 2), ("B", 3)):
            for name in ("add_start", "add_end", "remove_start", "remove_end"):
                for wrong in (states, -1, 6, 10 ** 29, True, None):
                    self.assertEqual(self.raised(UnknownState, getattr(session, name), kind, wrong).state, wrong)
            self.assertEqual(self.raised(UnknownState, session.add_edge, kind, states, "d", -1).state, states)
            self.assertEqual(self.raised(UnknownState, session.add_edge, kind, 0, "d", states).state, states)
            self.assertEqual(self.raised(NotALog, session.add_edge, kind, 0, "c", 1).value, "c")
            self.assertEqual(self.raised(NotALog, session.add_edge, kind, 0, "", 1).value, "")
            self.assertEqual(self.raised(EdgeExists, session.add_edge, kind, 0, "a", 1).edge, (0, "a", 1))
            self.assertEqual(self.raised(UnknownEdge, session.remove_edge, kind, 0, "b", 1).edge, (0, "b", 1))
        self.assertEqual(self.raised(UnknownEdge, session.remove_edge, "A", 1, "b", 2).edge, (1, "b", 2))
        self.check_pair(session, example_pair())

    def test_fourteen_edges(self):
        session = Session((Machine(3, 6), Machine(3, 6)))
        for kind in "AB":
            for place in range(14):
                session.add_edge(kind, place % 6, "abc"[place // 6], 0)
            self.assertEqual(self.raised(LimitExceeded, session.add_edge, kind, 5, "c", 5).limit, 14)
            self.assertEqual(self.raised(EdgeExists, session.add_edge, kind, 0, "a", 0).edge, (0, "a", 0))
        self.assertEqual([len(machine.edges()) for machine in session.pair()], [14, 14])


class CheckpointTest(SessionCase):
    def test_any_number_of_times_and_in_any_order(self):
        session = Session(example_pair())
        looks = []
        for number, edit in enumerate((
            lambda: None, lambda: session.add_edge("A", 1, "b", 1), lambda: session.add_start("B", 2),
            lambda: session.remove_end("A", 1), lambda: session.remove_edge("B", 1, "b", 2),
            lambda: session.add_end("B", 1), lambda: session.remove_start("A", 0), lambda: session.add_end("A", 0),
        )):
            edit()
            self.assertEqual(session.checkpoint(), number)
            looks.append(looks_of(session.pair()))
        self.assertEqual(len({repr(look) for look in looks}), 8)
        for number in (3, 3, 0, 7, 1, 0, 5, 6, 2, 4, 4, 7, 0):
            self.assertIsNone(session.restore(number))
            self.assertEqual(looks_of(session.pair()), looks[number])
            # Edits behind a restore do not reach the checkpoint.
            session.add_edge("A", 0, "b", 0)
            session.add_end("B", 0)
        self.assertEqual(self.raised(LimitExceeded, session.checkpoint).limit, 8)

    def test_the_ninth(self):
        session = Session(example_pair())
        self.assertEqual([session.checkpoint() for _ in range(8)], list(range(8)))
        session.add_end("A", 0)
        for _ in range(2):
            self.assertEqual(self.raised(LimitExceeded, session.checkpoint).limit, 8)
        session.restore(7)
        self.assertEqual(self.raised(LimitExceeded, session.checkpoint).limit, 8)
        self.check_pair(session, example_pair())

    def test_unknown_checkpoints(self):
        session = Session(example_pair())
        self.assertEqual(self.raised(UnknownCheckpoint, session.restore, 0).number, 0)
        session.checkpoint()
        session.add_end("A", 0)
        before = looks_of(session.pair())
        for number in NO_NUMBERS:
            self.assertEqual(self.raised(UnknownCheckpoint, session.restore, number).number, number)
        self.assertEqual(looks_of(session.pair()), before)
        session.restore(number=0)
        self.check_pair(session, example_pair())
        self.assertEqual(session.checkpoint(), 1)

    def test_a_restore_changes_nothing_else(self):
        session = Session(example_pair())
        session.checkpoint()
        session.record(("within", "A", 2))
        session.add_edge("A", 1, "b", 1)
        session.record(BOUNDED)
        session.checkpoint()
        session.restore(0)
        self.assertEqual([session.recorded(number)[0] for number in (0, 1)], ["shown", "broken"])
        self.assertEqual([session.standing(number) for number in (0, 1)], [True, False])
        session.restore(1)
        self.assertEqual([session.standing(number) for number in (0, 1)], [False, True])
        self.assertEqual((session.checkpoint(), session.record(SORTABLE)), (2, 2))
        session.restore(0)
        self.assertEqual([session.standing(number) for number in (0, 1, 2)], [True, False, False])

    def test_pairs_returned_earlier_stay(self):
        session = Session(example_pair())
        session.checkpoint()
        session.add_end("A", 0)
        pair = session.pair()
        session.restore(0)
        self.assertEqual(pair[0].ends(), (0, 1))


class RecordTest(SessionCase):
    def test_decide_as_for_the_pair(self):
        for pair in [example_pair()] + random_pairs(10, 2, 4, 7):
            session = Session(pair)
            for claim in CLAIMS:
                self.assertEqual(session.decide(claim), decide(pair, claim))
                self.assertEqual(session.decide(claim=claim), decide(pair, claim))

    def test_decide_behind_edits(self):
        session, (one, two) = Session(example_pair()), example_pair()
        session.add_edge("B", 0, "b", 2)
        two.add_edge(0, "b", 2)
        for claim in CLAIMS:
            self.assertEqual(session.decide(claim), decide((one, two), claim))
        session.remove_edge("B", 0, "b", 2)
        for claim in CLAIMS:
            self.assertEqual(session.decide(claim), decide(example_pair(), claim))

    def test_records_in_order(self):
        session = Session(example_pair())
        self.assertEqual([session.record(claim) for claim in CLAIMS], list(range(12)))
        for number, claim in enumerate(CLAIMS):
            self.assertEqual(session.recorded(number), decide(example_pair(), claim))
            self.assertIs(session.standing(number), True)
        self.assertEqual(session.record(claim=BOUNDED), 12)
        self.assertEqual(session.recorded(number=12), session.recorded(0))
        self.assertIs(session.standing(number=12), True)

    def test_a_record_keeps_its_certificate(self):
        session = Session(example_pair())
        session.record(("within", "B", 2))
        session.add_edge("A", 1, "b", 1)
        session.remove_edge("A", 0, "a", 1)
        self.assertEqual(session.recorded(0), ("broken", ("within", "B", 2), ("a", "ab")))
        self.assertIs(session.standing(0), False)
        session.add_edge("A", 0, "a", 1)
        self.assertIs(session.standing(0), True)

    def test_the_seventeenth(self):
        session = Session(example_pair())
        for number in range(16):
            self.assertEqual(session.record(BOUNDED), number)
        # Ahead of all that decide raises.
        for claim in (BOUNDED, None, (), ("within", "A", 13)):
            self.assertEqual(self.raised(LimitExceeded, session.record, claim).limit, 16)
        self.assertEqual(session.decide(BOUNDED)[0], "shown")
        self.assertIs(session.standing(15), True)
        full = Session(pair_of_12_and_13())
        for _ in range(16):
            full.record(("within", "A", 1))
        self.assertEqual(self.raised(LimitExceeded, full.record, SORTABLE).limit, 16)
        self.assertEqual(self.raised(LimitExceeded, full.decide, SORTABLE).limit, 12)

    def test_what_decide_raises(self):
        for pair, claim, limit in (
            (pair_of_46_for_b(), ("within", "A", 2), 45), (pair_of_12_and_13(), SORTABLE, 12),
            (pair_of_25_patterns(), ("within", "A", 12), 24), (pair_of_3001(), ("within", "A", 12), 3000),
            (pair_of_log_201(), ("within", "B", 7), 200),
        ):
            session = Session(pair)
            self.assertEqual(session.record(BOUNDED), 0)
            for call in (session.decide, session.record):
                self.assertEqual(self.raised(LimitExceeded, call, claim).limit, limit)
                for wrong in (None, ("within", "A", True), ["bounded"]):
                    self.raised(InvalidClaim, call, wrong)
            # A call that raises keeps nothing.
            self.raised(UnknownRecord, session.recorded, 1)
            self.assertEqual(session.record(BOUNDED), 1)
            self.check_pair(session, pair)

    def test_unknown_records(self):
        session = Session(example_pair())
        for call in (session.recorded, session.standing):
            self.assertEqual(self.raised(UnknownRecord, call, 0).number, 0)
        session.record(BOUNDED)
        for number in NO_NUMBERS:
            for call in (session.recorded, session.standing):
                self.assertEqual(self.raised(UnknownRecord, call, number).number, number)

    def test_standing_raises_as_first_fault(self):
        # The rules stand with 3000 pairs; one edge more and these are too many to ask.
        found = self.rules_that_get_too_many()
        self.assertIsNotNone(found)
        session, edge = found
        session.add_edge("B", *edge)
        self.assertEqual(self.raised(LimitExceeded, session.standing, 0).limit, 3000)
        self.assertEqual(self.raised(LimitExceeded, first_fault, session.pair(), session.recorded(0)).limit, 3000)
        self.assertEqual(self.raised(UnknownRecord, session.standing, 1).number, 1)
        session.remove_edge("B", *edge)
        self.assertIs(session.standing(0), True)

    def rules_that_get_too_many(self):
        pair = pair_of_3001()
        for gone in pair[1].edges():
            session = Session(pair)
            session.remove_edge("B", *gone)
            try:
                session.record(("within", "A", 12))
            except LimitExceeded:
                continue
            session.add_edge("B", *gone)
            try:
                session.standing(0)
            except LimitExceeded:
                session.remove_edge("B", *gone)
                return session, gone
        return None

    def test_edges_starts_and_ends_that_come_and_go(self):
        ended = {"shown": 0, "broken": 0}
        for pair in random_pairs(40, 2, 3, 6):
            session = Session(pair)
            session.checkpoint()
            for claim in CLAIMS[:6]:
                session.record(claim)
            for side, kind in enumerate("AB"):
                machine = pair[side]
                for state in range(machine.states):
                    for name, there in (("start", machine.starts()), ("end", machine.ends())):
                        edit = getattr(session, ("remove_" if state in there else "add_") + name)
                        edit(kind, state)
                        self.check_ended(session, "broken" if state in there else "shown", ended)
                for edge in [(0, "a", 0), (0, "b", machine.states - 1), (machine.states - 1, "a", 0)]:
                    there = edge in machine.edges()
                    (session.remove_edge if there else session.add_edge)(kind, *edge)
                    self.check_ended(session, "broken" if there else "shown", ended)
        self.assertGreater(min(ended.values()), 20)

    def check_ended(self, session, word, ended):
        """Only certificates of this word are ended; behind a restore all stand."""
        for number in range(6):
            if not session.standing(number):
                self.assertEqual(session.recorded(number)[0], word)
                ended[word] += 1
        session.restore(0)
        self.assertEqual([session.standing(number) for number in range(6)], [True] * 6)


class InterfaceTest(SessionCase):
    def test_names_and_places(self):
        edge, state = ["kind", "origin", "sign", "target"], ["kind", "state"]
        methods = {
            "__init__": ["pair"], "pair": [], "add_edge": edge, "remove_edge": edge, "add_start": state, "add_end": state,
            "remove_start": state, "remove_end": state, "checkpoint": [], "restore": ["number"], "decide": ["claim"],
            "record": ["claim"], "recorded": ["number"], "standing": ["number"],
        }
        self.check_interface(sessions, {"Session": ["pair"]}, [("Session", methods)])

    def test_arguments_by_name(self):
        session = Session(pair=example_pair())
        self.check_pair(session, example_pair())
        self.raised(Unpaired, Session, pair=(Machine(1, 1), Machine(2, 1)))

    def test_examples_of_the_document(self):
        session = Session(example_pair())
        session.record(("within", "A", 2))
        before = session.standing(0)
        session.add_edge("A", 1, "b", 1)
        self.assertEqual((before, session.standing(0)), (True, False))


if __name__ == "__main__":
    unittest.main()
