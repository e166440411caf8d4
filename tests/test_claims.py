import copy
import unittest
from itertools import permutations, product

from gaprules import claims
from gaprules.bases import basis
from gaprules.chains import chain_above
from gaprules.claims import decide, first_fault, require_claim
from gaprules.downsets import Downset
from gaprules.errors import InvalidClaim, LimitExceeded, Unpaired
from gaprules.ladders import is_barrier, is_ladder, ladder_or_barrier
from gaprules.machines import Machine
from gaprules.made import made_rules
from gaprules.rules import rules_fault
from tests.helpers import (
    ProgramCase, example_pair, look_of, machine_of, machines_without_logs, pair_of_45, pair_of_46,
    pair_of_46_on_the_way, random_pairs,
)
from tests.pairs import (
    exchanged, pair_of_11_and_12, pair_of_12_and_13, pair_of_19_and_20, pair_of_20_and_21, pair_of_24_patterns,
    pair_of_25_patterns, pair_of_46_for_b, pair_of_3000, pair_of_3001, pair_of_log_200, pair_of_log_201,
    pair_of_pattern_24, pair_of_pattern_25,
)
from tests.rulesets import alternating, random_rules
from tests.test_ladders import steps_by_search, way_through
from tests.test_rules import WIDE, pairs_met

BOUNDED, SORTABLE = ("bounded",), ("sortable",)
WITHIN = [("within", last, most) for last in "AB" for most in range(1, 13)]
CLAIMS = [BOUNDED, SORTABLE] + WITHIN
# Values of every kind, some of which are right in some places.
VALUES = (
    0, 1, 2, -1, 10 ** 29, True, False, None, "", "A", "B", "a", "ab", "shown", "broken", "bounded", "sign", "d", "\n",
    (), ((),), ("a",), ("a", "ab"), (0, 0), (("sign", "a"),), ((0, 0),), ((), "A"), ("bounded",), [], ["a"],
    [("sign", "a")], [(0, 0)], [(), "A"], {}, {"a": 1}, {0: 0}, ([],), ({},), (None,), (True,), ((((((),),),),),),
)


def other(kind):
    return "BA"["AB".index(kind)]


def wanted(pair, claim):
    """What decide is to return, by the other functions, or the limit that it is to raise."""
    name, found = ladder_or_barrier(pair)
    if name == "ladder":
        return ("broken", claim, found)
    if claim == BOUNDED:
        return ("shown", claim, found)
    try:
        if claim == SORTABLE:
            empty = {kind: first_empty(pair, kind, 12) for kind in "AB"}
            if empty["A"] is None and empty["B"] is None:
                return 12
            fewest = {last: empty[other(last)] or 99 for last in "AB"}
            last = "A" if fewest["A"] <= fewest["B"] else "B"
            return ("shown", claim, checked(pair, last, fewest[last]))
        _, last, most = claim
        many = first_empty(pair, other(last), most)
        if many is None:
            return ("broken", claim, chain_above(pair, other(last), most, ""))
        return ("shown", claim, checked(pair, last, many))
    except LimitExceeded as error:
        return error.limit


def first_empty(pair, kind, most):
    for depth in range(1, most + 1):
        if Downset(pair, kind, depth).is_empty():
            return depth
    return None


def checked(pair, last, many):
    blocks = []
    for depth in range(1, many):
        try:
            blocks.append(basis(pair, "AB"[("AB".index(last) + many - 1 - depth) % 2], depth))
        except LimitExceeded:
            raise LimitExceeded(24)
    if any(len(patterns) > 24 or len(pattern) > 24 for patterns in blocks for pattern in patterns):
        raise LimitExceeded(24)
    rules = alternating(last, blocks)
    if any(pairs_met(machine, rules) > 3000 for machine in pair):
        raise LimitExceeded(3000)
    return rules


def some_pairs():
    return [example_pair()] + [
        pair for signs in (1, 2, 3) for many, states, edges in ((25, 3, 6), (10, 5, 8), (6, 6, 14))
        for pair in random_pairs(many, signs, states, edges)
    ]


def pairs_at_limits():
    return [
        pair_of_11_and_12(), exchanged(pair_of_11_and_12()), pair_of_12_and_13(), pair_of_19_and_20(),
        pair_of_20_and_21(), pair_of_24_patterns(), pair_of_25_patterns(), pair_of_46_for_b(),
        exchanged(pair_of_46_for_b()), pair_of_46_on_the_way(), pair_of_46(), pair_of_45(), pair_of_3000(),
        pair_of_3001(), exchanged(pair_of_3000()), exchanged(pair_of_3001()), pair_of_log_200(), pair_of_log_201(),
        exchanged(pair_of_log_201()), pair_of_pattern_24(), pair_of_pattern_25(),
    ]


class ClaimCase(ProgramCase):
    def check_decide(self, pair, claim):
        """Check the answer against what is wanted, and return it or the limit that is raised."""
        answer = wanted(pair, claim)
        if isinstance(answer, int):
            self.assertEqual(self.raised(LimitExceeded, decide, pair, claim).limit, answer)
            return answer
        certificate = decide(pair, claim)
        self.assertEqual(certificate, answer)
        self.assertEqual((type(certificate), len(certificate)), (tuple, 3))
        self.assertIsNone(first_fault(pair, certificate))
        return certificate


class RequireClaimTest(ProgramCase):
    def refused(self, claim):
        before = copy.deepcopy(claim)
        self.raised(InvalidClaim, require_claim, claim)
        self.raised(InvalidClaim, decide, example_pair(), claim)
        self.assertEqual(repr(claim), repr(before))

    def test_the_claims(self):
        self.assertEqual(len(CLAIMS), 26)
        for claim in CLAIMS:
            self.assertIsNone(require_claim(claim))

    def test_numbers_out_of_range_and_of_other_kinds(self):
        for last in "AB":
            for wrong in (0, 13, -1, 14, 100, 10 ** 29, -10 ** 29, True, False, None, "1", "", (1,), [1], {1: 1}, ()):
                self.refused(("within", last, wrong))

    def test_other_answers(self):
        for wrong in ("", "C", "a", "AB", "A ", 0, 1, True, None, ("A",), ["A"], {"A": "B"}):
            self.refused(("within", wrong, 1))

    def test_other_words(self):
        for wrong in ("", "Bounded", "within", "shown", "sortable ", 0, True, None, ("bounded",), ["bounded"]):
            self.refused((wrong,))
        for wrong in ("", "bounded", "sortable", "Within", 1, None, ("within",), ["within"]):
            self.refused((wrong, "A", 1))

    def test_tuples_of_other_lengths(self):
        for wrong in (
            (), ("within",), ("within", "A"), ("within", 1), ("within", "A", 1, 1), ("bounded", "A"), ("bounded", "A", 1),
            ("bounded", None), ("sortable", "A", 1), ("sortable", 1), ("bounded", "sortable"), ("A", 1), (("within", "A", 1),),
        ):
            self.refused(wrong)

    def test_other_kinds_of_values(self):
        for wrong in VALUES:
            if wrong != BOUNDED:
                self.refused(wrong)
        for claim in CLAIMS:
            self.refused(list(claim))
            self.refused({"claim": claim})
            self.refused((claim,))
            self.refused(claim + ((),))


class DecideTest(ClaimCase):
    def test_the_example(self):
        pair = example_pair()
        short, long = ((("B", ("b", "aa")),), "A"), ((("B", ("b", "aa")), ("A", ("",))), "B")
        for claim, certificate in (
            (("within", "B", 2), ("broken", ("within", "B", 2), ("a", "ab"))),
            (("within", "B", 1), ("broken", ("within", "B", 1), ("a",))),
            (("within", "A", 1), ("broken", ("within", "A", 1), ("ab",))),
            (("within", "A", 2), ("shown", ("within", "A", 2), short)),
            (("within", "A", 12), ("shown", ("within", "A", 12), short)),
            (("within", "B", 3), ("shown", ("within", "B", 3), long)),
            (SORTABLE, ("shown", SORTABLE, short)),
            (BOUNDED, ("shown", BOUNDED, ((0, 0), (1, 1)))),
        ):
            self.assertEqual(decide(pair, claim), certificate)
            self.assertEqual(self.check_decide(pair, claim), certificate)

    def test_all_claims_for_many_pairs(self):
        words = {}
        for place, pair in enumerate(some_pairs()):
            for claim in CLAIMS:
                with self.subTest((place, claim)):
                    certificate = self.check_decide(pair, claim)
                    words.setdefault((claim[0], certificate[0]), []).append(place)
        for key in product(("bounded", "within", "sortable"), ("shown", "broken")):
            self.assertGreater(len(words[key]), 20)

    def test_all_claims_for_pairs_at_the_limits(self):
        limits = set()
        for place, pair in enumerate(pairs_at_limits()):
            for claim in CLAIMS:
                with self.subTest((place, claim)):
                    answer = self.check_decide(pair, claim)
                    if isinstance(answer, int):
                        limits.add((claim[0], answer))
        self.assertEqual(limits, {
            ("within", 45), ("within", 24), ("within", 3000), ("within", 200),
            ("sortable", 45), ("sortable", 24), ("sortable", 3000), ("sortable", 12),
        })

    def test_a_ladder_breaks_all_claims(self):
        machine = machine_of(2, 3, "0a1 1b2", (0,), (2,))
        for pair in ((machine, machine), pair_of_45(), pair_of_46()):
            for claim in CLAIMS:
                word, same, ladder = decide(pair, claim)
                self.assertEqual((word, same), ("broken", claim))
                self.assertIs(is_ladder(pair, ladder), True)
                self.assertIsNone(first_fault(pair, (word, same, ladder)))
        empty = machine_of(1, 1, "", (0,), (0,))
        self.assertEqual(decide((empty, empty), ("within", "A", 3)), ("broken", ("within", "A", 3), ()))

    def test_a_barrier_shows_bounded(self):
        for pair in [pair for pair in pairs_at_limits() if ladder_or_barrier(pair)[0] == "barrier"]:
            word, claim, barrier = decide(pair, BOUNDED)
            self.assertEqual((word, claim), ("shown", BOUNDED))
            self.assertIs(is_barrier(pair, barrier), True)

    def test_sortable_takes_the_fewer_answers(self):
        pair = example_pair()
        self.assertEqual(decide(pair, SORTABLE)[2], made_rules(pair, "A"))
        self.assertEqual(decide(exchanged(pair), SORTABLE)[2], made_rules(exchanged(pair), "B"))
        self.assertEqual(decide(pair_of_11_and_12(), SORTABLE)[2], made_rules(pair_of_11_and_12(), "B"))
        self.assertEqual(
            decide(exchanged(pair_of_11_and_12()), SORTABLE)[2], made_rules(exchanged(pair_of_11_and_12()), "A"))

    def test_sortable_takes_a_if_both_have_equally_many(self):
        # "a" and "b": two answers with either last answer; no logs at all: one.
        pair = machine_of(2, 2, "0a1", (0,), (1,)), machine_of(2, 2, "0b1", (0,), (1,))
        self.assertEqual(decide(pair, SORTABLE), ("shown", SORTABLE, ((("B", ("b", "aa")),), "A")))
        self.assertEqual(decide(exchanged(pair), SORTABLE), ("shown", SORTABLE, ((("B", ("a", "bb")),), "A")))
        for machine in machines_without_logs():
            self.assertEqual(decide((machine, machine), SORTABLE), ("shown", SORTABLE, ((), "A")))
            self.assertEqual(decide((pair[0], machine), SORTABLE), ("shown", SORTABLE, ((), "A")))
            self.assertEqual(decide((machine, pair[0]), SORTABLE), ("shown", SORTABLE, ((), "B")))

    def test_machines_without_logs(self):
        full = machine_of(2, 1, "0a0 0b0", (0,), (0,))
        for machine in machines_without_logs():
            for pair in ((machine, full), (full, machine), (machine, machine)):
                for claim in CLAIMS:
                    self.check_decide(pair, claim)
            self.assertEqual(decide((full, machine), ("within", "B", 1)), ("broken", ("within", "B", 1), ("",)))

    def test_behind_each_kind_of_edit_and_back(self):
        one, two = example_pair()
        first = [decide((one, two), claim) for claim in CLAIMS]
        edits = (
            (lambda: one.add_edge(1, "b", 1), lambda: one.remove_edge(1, "b", 1)),
            (lambda: two.remove_edge(0, "a", 1), lambda: two.add_edge(0, "a", 1)),
            (lambda: two.add_start(2), lambda: two.remove_start(2)),
            (lambda: one.remove_start(0), lambda: one.add_start(0)),
            (lambda: two.add_end(1), lambda: two.remove_end(1)),
            (lambda: one.remove_end(1), lambda: one.add_end(1)),
        )
        for place, (edit, back) in enumerate(edits):
            with self.subTest(place):
                edit()
                now = [self.check_decide((one, two), claim) for claim in CLAIMS]
                self.assertNotEqual(now, first)
                back()
                self.assertEqual([decide((one, two), claim) for claim in CLAIMS], first)

    def test_machines_and_claims_are_not_modified(self):
        for pair in some_pairs()[::4] + pairs_at_limits():
            before = [look_of(machine) for machine in pair]
            for claim in CLAIMS:
                try:
                    decide(pair, claim)
                except LimitExceeded:
                    pass
            self.assertEqual([look_of(machine) for machine in pair], before)

    def test_errors_in_their_order(self):
        for one, two in permutations((1, 2, 3), 2):
            pair = machine_of(one, 1, "0a0", (0,), (0,)), machine_of(two, 1, "0a0", (0,), (0,))
            for claim in CLAIMS + [None, (), ("within", "A", 13)]:
                self.raised(Unpaired, decide, pair, claim)
        for pair in pairs_at_limits():
            for wrong in (None, ("within", "A", 13), ["bounded"]):
                self.raised(InvalidClaim, decide, pair, wrong)


class DecideLimitTest(ClaimCase):
    def refused(self, limit, pair, claim):
        self.assertEqual(self.raised(LimitExceeded, decide, pair, claim).limit, limit)

    def test_45_rests_up_to_the_first_empty_set_or_n(self):
        pair = pair_of_46_for_b()
        # Chains that begin with B, for the last answer A: D_B(2) has 46 rests.
        self.assertEqual(decide(pair, ("within", "A", 1))[0], "broken")
        for most in range(2, 13):
            self.refused(45, pair, ("within", "A", most))
        # Chains that begin with A: D_A(2) is empty.
        for most in range(2, 13):
            self.assertEqual(decide(pair, ("within", "B", most))[0], "shown")
        self.refused(45, pair, SORTABLE)
        self.refused(45, exchanged(pair), SORTABLE)
        pair = pair_of_46_on_the_way()
        self.assertEqual([decide(pair, ("within", "B", most))[0] for most in (1, 2)], ["broken"] * 2)
        self.refused(45, pair, ("within", "B", 3))
        self.refused(45, pair, ("within", "A", 2))

    def test_twelve(self):
        for pair in (pair_of_12_and_13(), pair_of_19_and_20(), pair_of_20_and_21()):
            for side in (pair, exchanged(pair)):
                self.refused(12, side, SORTABLE)
        for pair in (pair_of_11_and_12(), exchanged(pair_of_11_and_12())):
            self.assertEqual(len(decide(pair, SORTABLE)[2][0]), 11)
        # Within has no such limit: a chain of 12 logs breaks it.
        for last in "AB":
            word, _, chain = decide(pair_of_12_and_13(), ("within", last, 12))
            self.assertEqual((word, len(chain)), ("broken", 12))

    def test_24(self):
        for pair, limit in ((pair_of_pattern_25(), 24), (pair_of_25_patterns(), 24)):
            self.refused(limit, pair, ("within", "A", 12))
            self.refused(limit, pair, SORTABLE)
        for pair in (pair_of_pattern_24(), pair_of_24_patterns()):
            self.assertEqual(decide(pair, ("within", "A", 12))[0], "shown")
            self.assertEqual(decide(pair, SORTABLE)[0], "shown")
        # Only if rules are returned, not a chain.
        self.assertEqual(decide(pair_of_25_patterns(), ("within", "A", 1))[0], "broken")

    def test_3000(self):
        for pair, last in ((pair_of_3001(), "A"), (exchanged(pair_of_3001()), "B")):
            self.refused(3000, pair, ("within", last, 12))
            self.refused(3000, pair, SORTABLE)
            self.assertEqual(decide(pair, ("within", last, 1))[0], "broken")
        for pair, last in ((pair_of_3000(), "A"), (exchanged(pair_of_3000()), "B")):
            certificate = decide(pair, ("within", last, 12))
            self.assertEqual(max(pairs_met(machine, certificate[2]) for machine in pair), 3000)
            self.assertIsNone(first_fault(pair, certificate))
            self.assertEqual(decide(pair, SORTABLE)[0], "shown")

    def test_200(self):
        for side, last in ((0, "B"), (1, "A")):
            pair, other_pair = pair_of_log_200(), pair_of_log_201()
            if side:
                pair, other_pair = exchanged(pair), exchanged(other_pair)
            word, _, chain = decide(pair, ("within", last, 7))
            self.assertEqual((word, len(chain[-1])), ("broken", 200))
            self.refused(200, other_pair, ("within", last, 7))
            # One log less, or rules: nothing is too long.
            self.assertEqual(decide(other_pair, ("within", last, 6))[0], "broken")
            self.assertEqual(decide(other_pair, ("within", last, 8))[0], "shown")
            self.assertEqual(decide(other_pair, SORTABLE)[0], "shown")

    def test_no_limit_for_bounded_or_where_there_is_a_ladder(self):
        for pair in pairs_at_limits():
            self.assertEqual(decide(pair, BOUNDED)[0] == "shown", ladder_or_barrier(pair)[0] == "barrier")
        for claim in CLAIMS:
            self.assertEqual(decide(pair_of_46(), claim)[0], "broken")

    def test_patterns_come_ahead_of_progresses(self):
        # 243 patterns of five signs lead to far more than 3000 pairs, too.
        edges = [(place, sign, place + 1) for place in range(4) for sign in "abc"]
        pair = machine_of(3, 5, edges, (0,), (4,)), machine_of(3, 6, "0a1 1b2 2c3 3a4 4c5 5c5 5b5 5a5", (0,), (5,))
        self.assertEqual(len(basis(pair, "A", 1)), 243)
        self.refused(24, pair, ("within", "A", 2))
        self.refused(24, pair, SORTABLE)


def form_by_trial(pair, value):
    """Whether the value is a claim with a certificate of its kind, by comparing it with what it may be."""
    def text(part, most, signs="abc"[:pair[0].signs]):
        return type(part) is str and len(part) <= most and set(part) <= set(signs)

    def tuple_of(part, lengths):
        return type(part) is tuple and len(part) in lengths

    def whole(part, many):
        return type(part) is int and part in range(many)

    def piece(part):
        if not tuple_of(part, (2, 4)):
            return False
        if len(part) == 2:
            return part[0] == "sign" and text(part[1], 1) and part[1] != ""
        if part[0] != "loop" or part[1] not in ("a", "b", "c", "ab", "ac", "bc", "abc") or not text(part[1], 3):
            return False
        return all(
            tuple_of(triple, (3,)) and all(text(string, 40, part[1]) for string in triple)
            and set(triple[1]) == set(part[1])
            for triple in part[2:]
        )

    def block(part):
        return (
            tuple_of(part, (2,)) and type(part[0]) is str and part[0] in ("A", "B")
            and tuple_of(part[1], range(1, 25)) and all(text(pattern, 24) for pattern in part[1])
        )

    def rules(part):
        if not tuple_of(part, (2,)) or not tuple_of(part[0], range(12)) or not all(block(one) for one in part[0]):
            return False
        answers = [one[0] for one in part[0]] + [part[1]]
        return part[1] in ("A", "B") and all(one != two for one, two in zip(answers, answers[1:]))

    def barrier(part):
        return type(part) is tuple and all(
            tuple_of(at, (2,)) and whole(at[0], pair[0].states) and whole(at[1], pair[1].states) for at in part
        ) and all(one < two for one, two in zip(part, part[1:]))

    if not tuple_of(value, (3,)) or type(value[1]) is not tuple or not any(
        repr(value[1]) == repr(claim) for claim in CLAIMS
    ):
        return False
    word, claim, found = value
    ladder = tuple_of(found, range(41)) and all(piece(part) for part in found)
    chain = type(found) is tuple and len(found) > 0 and all(text(log, 400) for log in found)
    if word == "broken":
        return ladder or (chain and claim[0] == "within")
    return word == "shown" and (barrier(found) if claim == BOUNDED else rules(found))


def fault_by_trial(pair, value):
    """The fault of a value of the right form, by the definitions."""
    word, claim, found = value
    if word == "shown" and claim == BOUNDED:
        return barrier_fault_by_trial(pair, found)
    if word == "shown":
        if claim != SORTABLE and (found[1] != claim[1] or len(found[0]) >= claim[2]):
            return ("answers",)
        fault = rules_fault(pair, found)
        return None if fault is None else ("log", fault[0], fault[1])
    if found and type(found[0]) is str:
        return chain_fault_by_trial(pair, other(claim[1]), claim[2], found)
    for many in range(1, len(found) + 1):
        if not all(leads_somewhere(machine, found[:many], side) for side, machine in enumerate(pair)):
            return ("piece", many - 1)
    for side, machine in enumerate(pair):
        if not way_through(machine, found, side):
            return ("end", "AB"[side])
    return None


def leads_somewhere(machine, ladder, side):
    everywhere = machine.twin()
    for state in range(machine.states):
        everywhere.add_end(state)
    return way_through(everywhere, ladder, side)


def chain_fault_by_trial(pair, kind, many, logs):
    if len(logs) != many:
        return ("length",)
    for at, log in enumerate(logs):
        if not pair[("AB".index(kind) + at) % 2].has_log(log):
            return ("kind", at)
        signs = iter(logs[at + 1] if at + 1 < many else log)
        if not all(sign in signs for sign in log):
            return ("contained", at)
    return None


def barrier_fault_by_trial(pair, barrier):
    one, two = pair
    if not set(product(one.starts(), two.starts())) <= set(barrier):
        return ("start",)
    leaving = [here for here, behind in steps_by_search(pair) if here in barrier and behind not in barrier]
    ending = set(product(one.ends(), two.ends())) & set(barrier)
    if leaving:
        return ("step", min(leaving))
    return ("end", min(ending)) if ending else None


def replaced(value, others):
    """The value with one of its parts, at any depth, exchanged for another value, doubled or left out."""
    yield from others
    if isinstance(value, tuple):
        for at, part in enumerate(value):
            for changed in replaced(part, others):
                yield value[:at] + (changed,) + value[at + 1:]
            yield value[:at] + value[at + 1:]
            yield value[:at + 1] + value[at:]
            yield value[:at] + (list(part) if isinstance(part, tuple) else [part],) + value[at + 1:]
        for at in range(len(value) - 1):
            yield value[:at] + (value[at + 1], value[at]) + value[at + 2:]
        yield list(value)


LADDER = (
    ("sign", "c"), ("loop", "ab", ("", "ab", ""), ("", "ba", "")), ("sign", "b"),
    ("loop", "a", ("", "a", ""), ("a", "a", "aa")),
)


def pair_of_ladder():
    return (
        machine_of(3, 5, "0c1 1a2 2b1 1b3 3a3 3b4", (0,), (3, 4)),
        machine_of(3, 5, "0c1 1b2 2a1 1b3 3a3", (0,), (3,)),
    )


class FaultCase(ProgramCase):
    def check(self, pair, certificate, fault):
        before = copy.deepcopy(certificate)
        found = first_fault(pair, certificate)
        self.assertEqual(found, fault, certificate)
        if found is not None:
            self.assertIs(type(found), tuple)
        self.assertEqual(repr(certificate), repr(before))

    def check_by_trial(self, pair, certificate):
        """Check the answer against the trials and return its name."""
        fault = fault_by_trial(pair, certificate) if form_by_trial(pair, certificate) else ("form",)
        self.check(pair, certificate, fault)
        return fault and fault[0]


class FormTest(FaultCase):
    def refused(self, pair, certificate):
        self.assertIs(form_by_trial(pair, certificate), False, certificate)
        self.check(pair, certificate, ("form",))

    def accepted(self, pair, certificate):
        self.assertIs(form_by_trial(pair, certificate), True, certificate)
        self.assertNotEqual(first_fault(pair, certificate), ("form",), certificate)

    def test_other_values(self):
        pair = example_pair()
        nested = ()
        for depth in range(14):
            nested = ((nested,), [nested], {"a": nested})[depth % 3]
        for value in VALUES + (nested, "x" * 5000, ("a",) * 15000, list(range(1000)), ("shown", "bounded", ())):
            self.refused(pair, value)
            for word in ("shown", "broken"):
                self.refused(pair, (word, value))
                self.refused(pair, (word, value, value))
                self.refused(pair, (word, BOUNDED, ((), (value,))))

    def test_each_part_of_each_form_exchanged(self):
        pair = example_pair()
        known = [decide(pair, claim) for claim in (BOUNDED, SORTABLE, ("within", "A", 2), ("within", "B", 2))]
        names = set()
        for certificate in known:
            for changed in replaced(certificate, VALUES):
                names.add(self.check_by_trial(pair, changed))
        for claim in (BOUNDED, SORTABLE, ("within", "A", 3)):
            for changed in replaced(("broken", claim, LADDER[:2]), VALUES):
                names.add(self.check_by_trial(pair_of_ladder(), changed))
        self.assertLessEqual({None, "form", "answers", "log", "length", "kind", "piece", "start", "step", "end"}, names)

    def test_claims_with_certificates_of_another_kind(self):
        pair = example_pair()
        proofs = {
            "barrier": ((0, 0), (1, 1)), "rules": ((("B", ("b", "aa")),), "A"), "chain": ("a", "ab"), "ladder": (("sign", "a"),),
        }
        fitting = {
            ("shown", "bounded"): ["barrier"], ("shown", "within"): ["rules"], ("shown", "sortable"): ["rules"],
            ("broken", "bounded"): ["ladder"], ("broken", "within"): ["chain", "ladder"], ("broken", "sortable"): ["ladder"],
        }
        for claim in CLAIMS:
            for word in ("shown", "broken"):
                for name, proof in proofs.items():
                    check = self.accepted if name in fitting[word, claim[0]] else self.refused
                    check(pair, (word, claim, proof))

    def test_the_empty_tuple(self):
        pair = example_pair()
        for claim in CLAIMS:
            self.check(pair, ("broken", claim, ()), ("end", "A"))
        self.check(pair, ("shown", BOUNDED, ()), ("start",))
        for claim in CLAIMS[1:]:
            self.check(pair, ("shown", claim, ()), ("form",))

    def test_chains(self):
        both = machine_of(2, 1, "0a0 0b0", (0,), (0,))
        pair = both, both
        claim = ("within", "A", 1)
        for length in (0, 1, 200, 201, 399, 400):
            self.check(pair, ("broken", claim, ("b" * length,)), None)
        for length in (401, 402, 1000):
            self.refused(pair, ("broken", claim, ("b" * length,)))
        self.refused(pair, ("broken", ("within", "A", 3), ("a", "ab", "a" * 401)))
        self.check(pair, ("broken", claim, ("a",) * 500), ("length",))
        for wrong in ("c", "abd", "A", " ", 1, None, ("a",), ["a"], b"a"):
            self.refused(pair, ("broken", claim, (wrong,)))
            self.refused(pair, ("broken", claim, ("a", wrong, "a")))
        self.refused(pair, ("broken", claim, ("a", ("sign", "a"))))
        self.refused(pair, ("broken", claim, (("sign", "a"), "a")))
        self.refused(pair, ("broken", claim, ["a"]))
        self.refused(pair, ("broken", claim, "a"))

    def test_ladders(self):
        both = machine_of(3, 1, "0a0 0b0 0c0", (0,), (0,))
        pair = both, both
        for many in (0, 1, 39, 40):
            self.check(pair, ("broken", BOUNDED, (("sign", "a"),) * many), None)
        for many in (41, 42, 1000):
            self.refused(pair, ("broken", BOUNDED, (("sign", "a"),) * many))
        for signs in ("a", "b", "c", "ab", "ac", "bc", "abc"):
            triple = ("", signs, "")
            self.check(pair, ("broken", SORTABLE, (("loop", signs, triple, triple),)), None)
            long = (signs * 41)[:40]
            full = (long, long, long)
            self.check(pair, ("broken", SORTABLE, (("loop", signs, full, full),)), None)
            longer = (signs * 41)[:41]
            for at in range(3):
                wrong = full[:at] + (longer,) + full[at + 1:]
                self.refused(pair, ("broken", SORTABLE, (("loop", signs, wrong, full),)))
                self.refused(pair, ("broken", SORTABLE, (("loop", signs, full, wrong),)))
        for signs in ("", "ba", "cb", "ca", "acb", "aa", "aab", "abcc", "d", "ad", 1, None, ("a",), ["a"], ("a", "b")):
            for triple in (("", "a", ""), ("", "abc", ""), ("", "abcd", ""), ("", "", "")):
                self.refused(pair, ("broken", SORTABLE, (("loop", signs, triple, triple),)))

    def test_loops(self):
        both = machine_of(3, 1, "0a0 0b0 0c0", (0,), (0,))
        right = ("a", "ba", "b")
        for wrong in (
            ("c", "ab", ""), ("", "abc", ""), ("", "ab", "c"), ("", "a", ""), ("", "bb", ""), ("", "", ""), ("ab", "", "ab"),
            ("", "ab"), ("", "ab", "", ""), ("ab",), (), ["", "ab", ""], "aba", (1, "ab", ""), ("", None, ""),
            ("", ("a", "b"), ""), ("", ["a", "b"], ""), ("", "ab", True), None, 3, {"a": "b"},
        ):
            self.refused((both, both), ("broken", BOUNDED, (("loop", "ab", wrong, right),)))
            self.refused((both, both), ("broken", BOUNDED, (("loop", "ab", right, wrong),)))
            self.refused((both, both), ("broken", ("within", "A", 2), (("sign", "a"), ("loop", "ab", right, wrong))))
        self.check((both, both), ("broken", BOUNDED, (("loop", "ab", right, right),)), None)

    def test_pieces(self):
        both = machine_of(2, 1, "0a0 0b0", (0,), (0,))
        triple = ("", "a", "")
        for wrong in (
            ("sign", ""), ("sign", "ab"), ("sign", "c"), ("sign", 1), ("sign", None), ("sign", ("a",)), ("sign", ["a"]),
            ("sign",), ("sign", "a", "a"), ("sign", "a", triple, triple), ("Sign", "a"), ("loop", "a"), ("loop", "a", triple),
            ("loop", "a", triple, triple, triple), ("loops", "a", triple, triple), ["sign", "a"], "sa", (), ("a",),
            (1, "a"), (None, "a", triple, triple), ("loop", "c", ("", "c", ""), ("", "c", "")), {"sign": "a"},
        ):
            for ladder in ((wrong,), (("sign", "a"), wrong), (wrong, ("sign", "a"))):
                self.refused((both, both), ("broken", SORTABLE, ladder))
                if wrong != "a":
                    self.refused((both, both), ("broken", ("within", "B", 1), ladder))

    def test_rules(self):
        pair = example_pair()
        for claim in (SORTABLE, ("within", "A", 12)):
            for many in (11, 12):
                check = self.accepted if many == 11 else self.refused
                check(pair, ("shown", claim, alternating("A", [("a",)] * many)))
            for many in (0, 1, 24, 25):
                check = self.accepted if many in (1, 24) else self.refused
                check(pair, ("shown", claim, alternating("A", [("a",) * many])))
            for length in (0, 24, 25):
                check = self.accepted if length < 25 else self.refused
                check(pair, ("shown", claim, alternating("A", [("b", "a" * length)])))
            for wrong in ("c", "d", 1, True, None, ("a",), ["a"], {}):
                self.refused(pair, ("shown", claim, alternating("A", [("a", wrong)])))
            for rules in (
                ((("A", ("a",)),), "A"), ((("B", ("a",)), ("B", ("b",))), "A"), ([("B", ("a",))], "A"), ["A"], ((), "C"),
                ((("B", ["a"]),), "A"), ((("B", ("a",), "a"),), "A"), (((), "A"),), ("A", ()), ((), True), ((), ["A"]),
            ):
                self.refused(pair, ("shown", claim, rules))

    def test_barriers(self):
        pair = example_pair()
        for barrier in ((), ((0, 0),), ((0, 0), (0, 1)), ((0, 2), (1, 0)), tuple(product(range(2), range(3)))):
            self.accepted(pair, ("shown", BOUNDED, barrier))
        for barrier in (
            ((0, 1), (0, 0)), ((1, 0), (0, 2)), ((0, 0), (0, 0)), ((0, 0), (1, 1), (1, 1)), ((2, 0),), ((0, 3),), ((-1, 0),),
            ((0, -1),), ((0, 0), (1, 3)), ((True, 0),), ((0, False),), ((0, True),), ((0, 0), (1, True)), ((0,),), ((0, 0, 0),),
            ((),), (0, 0), ([0, 0],), [(0, 0)], (("0", "0"),), (((0,), 0),), ((None, 0),), ((0, 0), None), "ab", {},
            {(0, 0): 1}, ((0, 10 ** 29),),
        ):
            self.refused(pair, ("shown", BOUNDED, barrier))
        # The states of each machine by themselves.
        self.accepted(exchanged(pair), ("shown", BOUNDED, ((2, 0),)))
        self.refused(exchanged(pair), ("shown", BOUNDED, ((0, 2),)))


class OtherFaultTest(FaultCase):
    def test_certificates_of_decide_are_right(self):
        for pair in some_pairs()[::3]:
            for claim in CLAIMS:
                self.check(pair, decide(pair, claim), None)

    def test_certificates_of_one_pair_for_another(self):
        names = {}
        for signs in (1, 2, 3):
            pairs = random_pairs(8, signs, 4, 8)
            certificates = [decide(pair, claim) for pair in pairs for claim in CLAIMS[:4] + WITHIN[12:14]]
            for pair in pairs:
                for certificate in certificates:
                    name = self.check_by_trial(pair, certificate)
                    names[name] = names.get(name, 0) + 1
        for name in (None, "form", "log", "kind", "piece", "end", "start", "step"):
            self.assertGreater(names.get(name, 0), 1, name)

    def test_rules(self):
        pair = example_pair()
        right = ((("B", ("b",)),), "A")
        for claim, rules, fault in (
            (("within", "A", 2), right, None), (("within", "A", 3), right, None), (("within", "A", 12), right, None),
            (SORTABLE, right, None), (("within", "A", 1), right, ("answers",)), (("within", "B", 2), right, ("answers",)),
            (("within", "B", 1), right, ("answers",)), (("within", "B", 12), right, ("answers",)),
            (("within", "A", 1), ((), "A"), ("log", "B", "ab")), (("within", "B", 1), ((), "B"), ("log", "A", "a")),
            (("within", "A", 2), ((("B", ("a",)),), "A"), ("log", "A", "a")),
            (("within", "A", 1), ((("B", ("a",)),), "A"), ("answers",)),
            (("within", "B", 2), ((("B", ("a",)),), "A"), ("answers",)), (SORTABLE, ((), "A"), ("log", "B", "ab")),
            (SORTABLE, ((), "B"), ("log", "A", "a")), (SORTABLE, alternating("A", [("b",)] * 11), None),
            (("within", "A", 12), alternating("A", [("b",)] * 11), None),
            (("within", "A", 11), alternating("A", [("b",)] * 11), ("answers",)),
            (("within", "A", 12), alternating("A", [("b",), ("",)]), ("log", "A", "a")),
        ):
            self.check(pair, ("shown", claim, rules), fault)

    def test_the_kind_of_a_log_of_both(self):
        both = machine_of(2, 2, "0a1", (0,), (1,))
        for rules, fault in (
            (((), "A"), ("log", "B", "a")), (((), "B"), ("log", "A", "a")), (alternating("A", [("a",)]), ("log", "A", "a")),
        ):
            self.check((both, both), ("shown", SORTABLE, rules), fault)

    def test_rules_against_a_trial(self):
        for pair in random_pairs(20, 2, 3, 6):
            for rules in random_rules(10, 2, 3):
                for claim in (SORTABLE, ("within", "A", 2), ("within", "B", 4)):
                    self.check_by_trial(pair, ("shown", claim, rules))

    def test_too_many_progresses(self):
        wide = machine_of(3, 2, "0a0 0b0 0c0 0a1", (0,), ())
        pair = wide, machine_of(3, 1, "", (0,), (0,))
        rules = (WIDE, "A")
        self.assertGreater(pairs_met(wide, rules), 3000)
        for side in (pair, exchanged(pair)):
            for claim in (SORTABLE, ("within", "A", 2), ("within", "A", 12)):
                self.assertEqual(self.raised(LimitExceeded, first_fault, side, ("shown", claim, rules)).limit, 3000)
            # Only for the right form, last answer and number of answers.
            self.check(side, ("shown", ("within", "A", 1), rules), ("answers",))
            self.check(side, ("shown", ("within", "B", 2), rules), ("answers",))
            self.check(side, ("shown", ("within", "A", 13), rules), ("form",))
            self.check(side, ("broken", SORTABLE, rules), ("form",))
            self.check(side, ("shown", SORTABLE, (WIDE, "B")), ("form",))
        wide.remove_edge(0, "a", 1)
        self.check(pair, ("shown", SORTABLE, rules), ("log", "B", ""))
        self.check(exchanged(pair), ("shown", SORTABLE, rules), None)

    def test_chains(self):
        # Odd numbers of a for A, even ones for B.
        pair = machine_of(2, 2, "0a1 1a0", (0,), (1,)), machine_of(2, 2, "0a1 1a0 0b0", (0,), (0,))
        for last, logs, fault in (
            ("B", ("a", "aa", "aaa"), None), ("B", ("a",), None), ("B", ("a", "baa"), None), ("A", ("", "a", "aa"), None),
            ("A", ("a", "aa", "aaa"), ("kind", 0)), ("B", ("a", "aaa", "aaa"), ("kind", 1)), ("B", ("a", "aa", "aa"), ("kind", 2)),
            ("B", ("aaa", "aa", "aaa"), ("contained", 0)), ("B", ("a", "aaaa", "aaa"), ("contained", 1)),
            # Of two faults the one at the lesser place, and there the kind first.
            ("B", ("aaa", "a", "aaa"), ("contained", 0)), ("B", ("aa", "", "aaa"), ("kind", 0)),
            ("B", ("aaa", "aa", "b"), ("contained", 0)), ("B", ("a", "b", "aaa"), ("contained", 0)),
            ("B", ("a", "ab", "aa"), ("kind", 1)), ("A", ("b", "a", "aa"), ("contained", 0)),
        ):
            self.check(pair, ("broken", ("within", last, len(logs)), logs), fault)
            for most in (1, 2, 4, 12):
                if most != len(logs):
                    self.check(pair, ("broken", ("within", last, most), logs), ("length",))

    def test_chains_against_a_trial(self):
        names = set()
        for pair in random_pairs(25, 2, 3, 6):
            for logs in product(("", "a", "b", "ab", "aab", "bab"), repeat=3):
                for claim in (("within", "A", 3), ("within", "B", 3)):
                    names.add(self.check_by_trial(pair, ("broken", claim, logs)))
                names.add(self.check_by_trial(pair, ("broken", ("within", "A", 2), logs[:2])))
        self.assertEqual(names, {None, "kind", "contained"})

    def test_a_ladder_in_the_place_of_a_chain(self):
        pair = pair_of_ladder()
        for claim in CLAIMS:
            self.check(pair, ("broken", claim, LADDER), None)
            self.check(pair, ("broken", claim, LADDER[1:]), ("piece", 0))
            self.check(pair, ("broken", claim, ()), ("end", "A"))
        empty = machine_of(3, 1, "", (0,), (0,))
        for claim in CLAIMS:
            self.check((empty, empty), ("broken", claim, ()), None)
            self.check((empty, pair[1]), ("broken", claim, ()), ("end", "B"))
            self.check((Machine(3, 1), empty), ("broken", claim, ()), ("end", "A"))

    def test_ladders(self):
        pair = pair_of_ladder()
        for ladder, fault in (
            (LADDER, None), (LADDER[:1], ("end", "A")), (LADDER[:2], ("end", "A")), (LADDER[:3], None),
            (LADDER + (("sign", "b"),), ("piece", 4)), (LADDER + (("sign", "a"),), None),
            (LADDER[:1] + LADDER[:1], ("piece", 1)), (LADDER[:2] + LADDER[3:], ("piece", 2)),
            (LADDER[::-1], ("piece", 0)),
        ):
            self.check(pair, ("broken", BOUNDED, ladder), fault)
        one, two = pair
        blocked = machine_of(3, 5, "0c1 1b2 2a1 1b3 3a3", (0,), (2,))
        self.check((one, blocked), ("broken", BOUNDED, LADDER), ("end", "B"))
        self.check((blocked, two), ("broken", BOUNDED, LADDER), ("piece", 1))
        self.check((Machine(3, 2), two), ("broken", BOUNDED, LADDER), ("piece", 0))
        self.check((one, Machine(3, 2)), ("broken", BOUNDED, LADDER), ("piece", 0))
        no_ends = machine_of(3, 1, "0a0 0b0 0c0", (0,), ())
        self.check((no_ends, no_ends), ("broken", BOUNDED, LADDER), ("end", "A"))
        self.check((one, no_ends), ("broken", BOUNDED, LADDER), ("end", "B"))
        # The first piece behind which either of the machines has no state.
        early = machine_of(3, 2, "0c1", (0,), (1,))
        late = machine_of(3, 3, "0c1 1b2", (0,), (2,))
        signs = (("sign", "c"), ("sign", "b"), ("sign", "a"))
        for side in ((early, late), (late, early)):
            self.check(side, ("broken", SORTABLE, signs), ("piece", 1))

    def test_ladders_against_a_trial(self):
        for pair in [pair_of_ladder()] + random_pairs(25, 3, 4, 10):
            for many in (1, 2, 3, 4):
                for ladder in permutations(LADDER, many):
                    self.check_by_trial(pair, ("broken", BOUNDED, ladder))

    def test_barriers(self):
        pair = example_pair()
        for barrier, fault in (
            (((0, 0), (1, 1)), None), ((), ("start",)), (((1, 1),), ("start",)), (((0, 0),), ("step", (0, 0))),
            (((0, 0), (1, 1), (1, 2)), ("end", (1, 2))), (((0, 0), (1, 2)), ("step", (0, 0))),
            (((1, 2),), ("start",)),
        ):
            self.check(pair, ("shown", BOUNDED, barrier), fault)

    def test_the_least_pair(self):
        one = machine_of(1, 4, "1a0 2a0 3a3", (0,), (2, 3))
        two = machine_of(1, 4, "1a0 2a3 3a2", (1,), (2, 3))
        states = tuple(product(range(4), range(4)))
        self.check((one, two), ("shown", BOUNDED, states), ("end", (2, 2)))
        self.check((one, two), ("shown", BOUNDED, states[:-1]), ("step", (3, 2)))
        self.check((one, two), ("shown", BOUNDED, states[:2] + states[4:]), ("step", (1, 2)))
        for pair in random_pairs(25, 2, 3, 5):
            states = list(product(range(pair[0].states), range(pair[1].states)))
            for left in range(len(states)):
                for more in range(left, len(states)):
                    barrier = [at for place, at in enumerate(states) if place not in (left, more)]
                    self.check_by_trial(pair, ("shown", BOUNDED, tuple(barrier)))

    def test_unpaired_comes_ahead_of_all_else(self):
        for one, two in permutations((1, 2, 3), 2):
            pair = machine_of(one, 1, "0a0", (0,), (0,)), machine_of(two, 1, "0a0", (0,), (0,))
            for certificate in VALUES + (("shown", BOUNDED, ()), ("broken", SORTABLE, ()), ("shown", SORTABLE, (WIDE, "A"))):
                self.raised(Unpaired, first_fault, pair, certificate)

    def test_behind_edits(self):
        one, two = example_pair()
        certificate = decide((one, two), ("within", "A", 2))
        self.check((one, two), certificate, None)
        one.add_edge(1, "b", 1)
        self.check((one, two), certificate, ("log", "A", "ab"))
        one.remove_edge(1, "b", 1)
        self.check((one, two), certificate, None)
        chain = decide((one, two), ("within", "B", 2))
        self.check((one, two), chain, None)
        two.remove_start(0)
        self.check((one, two), chain, ("kind", 1))
        before = look_of(one), look_of(two)
        for claim in CLAIMS:
            first_fault((one, two), ("broken", claim, LADDER))
            first_fault((one, two), ("shown", claim, ((0, 0),)))
        self.assertEqual((look_of(one), look_of(two)), before)


class InterfaceTest(ProgramCase):
    def test_names_and_places(self):
        functions = {
            "require_claim": ["claim"], "decide": ["pair", "claim"], "first_fault": ["pair", "certificate"],
        }
        self.check_interface(claims, functions)

    def test_arguments_by_name(self):
        pair = example_pair()
        self.assertIsNone(require_claim(claim=BOUNDED))
        self.raised(InvalidClaim, require_claim, claim=None)
        certificate = decide(claim=("within", "B", 2), pair=pair)
        self.assertEqual(certificate, ("broken", ("within", "B", 2), ("a", "ab")))
        self.assertEqual(decide(pair, claim=SORTABLE)[0], "shown")
        self.assertIsNone(first_fault(certificate=certificate, pair=pair))
        self.assertEqual(first_fault(pair, certificate=None), ("form",))
        self.raised(Unpaired, decide, claim=BOUNDED, pair=pair_of_46(3))

    def test_examples_of_the_document(self):
        pair = example_pair()
        self.assertEqual(decide(pair, ("within", "B", 2)), ("broken", ("within", "B", 2), ("a", "ab")))
        self.assertEqual(first_fault(pair, ("broken", ("within", "A", 2), ("a", "ab"))), ("kind", 0))


if __name__ == "__main__":
    unittest.main()
