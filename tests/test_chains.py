import unittest
from itertools import permutations

from gaprules import chains
from gaprules.chains import chain_above, depth_of, is_chain
from gaprules.downsets import Downset
from gaprules.errors import LimitExceeded, Unpaired
from gaprules.ladders import ladder_or_barrier
from gaprules.machines import Machine
from gaprules.signs import contains
from tests.helpers import (
    ProgramCase, example_pair, in_chain, look_of, machine_of, machines_without_logs, pair_of_45, pair_of_46,
    pair_of_46_on_the_way, random_pairs, strings_up_to,
)
from tests.pairs import (
    exchanged, pair_of_11_and_12, pair_of_12_and_13, pair_of_19_and_20, pair_of_20_and_21, pair_of_46_for_b,
    pair_of_log_200, pair_of_log_201,
)


def other(kind):
    return "BA"["AB".index(kind)]


def small_pairs():
    return [pair for signs in (1, 2, 3) for pair in random_pairs(40, signs, 3, 6)]


def pairs_of_stars():
    """Pairs with a ladder: chains of any length."""
    return (
        (machine_of(2, 2, "0a1 1b0", (0,), (0,)), machine_of(2, 2, "0b1 1a0", (0,), (0,))),
        (machine_of(1, 2, "0a1 1a0", (0,), (1,)), machine_of(1, 2, "0a1 1a0", (0,), (0,))),
        (machine_of(3, 2, "0a0 0b0 0c1", (0,), (1,)), machine_of(3, 2, "0c1 0a0 1b1", (0,), (1,))),
    )


def ranked_pair(states):
    """Strings of a, with fewer signs than states: odd numbers of signs for A, even ones for B."""
    line = " ".join(f"{place}a{place + 1}" for place in range(states - 1))
    places = range(states)
    return machine_of(1, states, line, (0,), places[1::2]), machine_of(1, states, line, (0,), places[::2])


def first_by_trial(pair, kind, left, below, length):
    """The first log of the kind that contains below and is in the set of the other kind, if it is short."""
    machine = pair["AB".index(kind)]
    for log in strings_up_to(length, "abc"[:machine.signs]):
        if contains(log, below) and machine.has_log(log) and in_chain(pair, other(kind), left, log):
            return log
    return None


class ChainAboveTest(ProgramCase):
    def check_chain(self, pair, kind, many, string, length=0):
        """Check the answer; each log of at most this length and each longer one against a trial."""
        found = chain_above(pair, kind, many, string)
        if found is None:
            self.assertIs(in_chain(pair, kind, many, string), False)
            return None
        self.assertIs(type(found), tuple)
        self.assertEqual(len(found), many)
        self.assertIs(is_chain(pair, kind, found), True)
        for at, log in enumerate(found):
            self.assertIs(contains(log, string), True)
            first = first_by_trial(pair, kind, many - 1 - at, string, min(len(log), length))
            self.assertEqual(first, log if len(log) <= length else None)
            string, kind = log, other(kind)
        return found

    def test_the_example(self):
        pair = example_pair()
        known = {
            ("A", 0, ""): (), ("B", 0, ""): (), ("A", 0, "bab"): (), ("A", 1, ""): ("a",), ("A", 1, "a"): ("a",),
            ("A", 1, "b"): None, ("B", 1, ""): ("ab",), ("B", 1, "b"): ("ab",), ("B", 1, "ba"): None,
            ("A", 2, ""): ("a", "ab"), ("A", 2, "a"): ("a", "ab"), ("A", 2, "b"): None, ("A", 2, "ab"): None,
            ("B", 2, ""): None, ("A", 3, ""): None, ("B", 3, ""): None, ("A", 20, ""): None,
        }
        for (kind, many, string), chain in known.items():
            with self.subTest((kind, many, string)):
                self.assertEqual(chain_above(pair, kind, many, string), chain)

    def test_no_logs(self):
        for pair in (example_pair(), pair_of_46(), (Machine(2, 1), Machine(2, 1))):
            for kind in "AB":
                for string in ("", "ab", "bbbbbb", "a" * 300):
                    self.assertEqual(chain_above(pair, kind, 0, string), ())

    def test_small_pairs_against_a_trial(self):
        tried = {True: 0, False: 0}
        for place, pair in enumerate(small_pairs()):
            signs = pair[0].signs
            for kind in "AB":
                for many in (1, 2, 3):
                    for string in strings_up_to(2, "abc"[:signs]):
                        with self.subTest((place, kind, many, string)):
                            chain = self.check_chain(pair, kind, many, string, 7 - signs)
                            tried[chain is None] += 1
        self.assertGreater(min(tried.values()), 500)

    def test_it_exists_exactly_if_the_set_holds_the_string(self):
        for place, pair in enumerate(random_pairs(25, 2, 6, 12) + random_pairs(15, 3, 6, 14)):
            letters = "abc"[:pair[0].signs]
            for kind in "AB":
                for many in (1, 2, 4):
                    try:
                        downset = Downset(pair, kind, many)
                    except LimitExceeded as error:
                        raised = self.raised(LimitExceeded, chain_above, pair, kind, many, "")
                        self.assertEqual(raised.limit, error.limit)
                        continue
                    for string in strings_up_to(3, letters):
                        with self.subTest((place, kind, many, string)):
                            chain = chain_above(pair, kind, many, string)
                            self.assertIs(chain is not None, downset.holds(string))
                            if chain is not None:
                                self.assertIs(is_chain(pair, kind, chain), True)
                                self.assertIs(all(contains(log, string) for log in chain), True)

    def test_the_first_log_in_order(self):
        # Kind A has a log of one sign and longer ones; by length first, then by alphabet.
        one = machine_of(2, 4, "0b1 0a2 2b3 2a3 3a1", (0,), (1, 3))
        both = machine_of(2, 1, "0a0 0b0", (0,), (0,))
        pair = one, both
        self.assertEqual(chain_above(pair, "A", 1, ""), ("b",))
        self.assertEqual(chain_above(pair, "A", 1, "a"), ("aa",))
        self.assertEqual(chain_above(pair, "A", 1, "ab"), ("ab",))
        self.assertEqual(chain_above(pair, "A", 1, "ba"), ("aba",))
        self.assertEqual(chain_above(pair, "A", 2, "ba"), ("aba", "aba"))
        self.assertEqual(chain_above(pair, "B", 1, "ba"), ("ba",))
        self.assertEqual(chain_above(pair, "B", 2, "ba"), ("ba", "aba"))
        self.assertEqual(chain_above(pair, "B", 3, "a"), ("a", "aa", "aa"))

    def test_a_log_is_in_the_set_of_the_other_kind_and_one_less(self):
        # "b" is the first log of kind A, but only "aa" is contained in a log of kind B.
        pair = machine_of(2, 3, "0b1 0a2 2a1", (0,), (1,)), machine_of(2, 4, "0a1 1a2 2a3", (0,), (3,))
        self.assertEqual(chain_above(pair, "A", 1, ""), ("b",))
        self.assertEqual(chain_above(pair, "A", 2, ""), ("aa", "aaa"))
        self.assertIsNone(chain_above(pair, "A", 2, "b"))
        self.assertIsNone(chain_above(pair, "A", 3, ""))

    def test_a_log_of_both_kinds_may_follow_itself(self):
        machine = machine_of(2, 3, "0a1 1b2", (0,), (1, 2))
        for many in (1, 2, 5, 20):
            self.assertEqual(chain_above((machine, machine), "A", many, ""), ("a",) * many)
            self.assertEqual(chain_above((machine, machine), "B", many, "b"), ("ab",) * many)

    def test_machines_with_rounds(self):
        for pair in pairs_of_stars():
            for kind in "AB":
                for many in (1, 2, 3):
                    for string in ("", "a", "aa", "aaa"):
                        self.check_chain(pair, kind, many, string, 6)
                chain = chain_above(pair, kind, 20, "a")
                self.assertEqual(len(chain), 20)
                self.assertIs(is_chain(pair, kind, chain), True)
        odd_and_even = pairs_of_stars()[1]
        self.assertEqual(chain_above(odd_and_even, "A", 4, ""), ("a", "aa", "aaa", "aaaa"))
        self.assertEqual(chain_above(odd_and_even, "B", 3, ""), ("", "a", "aa"))
        self.assertEqual(chain_above(odd_and_even, "B", 20, "aa")[-1], "a" * 21)

    def test_ranked_machines(self):
        logs = tuple("a" * length for length in range(6))
        pair = ranked_pair(6)
        self.assertEqual([depth_of(pair, kind) for kind in "AB"], [5, 6])
        for kind, first in (("B", 0), ("A", 1)):
            for many in range(7 - first):
                self.assertEqual(chain_above(pair, kind, many, ""), logs[first:first + many])
            self.assertIsNone(chain_above(pair, kind, 7 - first, ""))
        self.assertEqual(chain_above(pair, "A", 2, "aaa"), logs[3:5])
        self.assertEqual(chain_above(pair, "A", 2, "aa"), logs[3:5])
        self.assertEqual(chain_above(pair, "B", 3, "aa"), logs[2:5])
        self.assertIsNone(chain_above(pair, "A", 2, "aaaa"))
        self.assertIsNone(chain_above(pair, "B", 3, "aaaa"))

    def test_machines_with_long_chains(self):
        for pair, kinds in (
            (pair_of_11_and_12(), {"A": 11, "B": 12}), (pair_of_12_and_13(), {"A": 12, "B": 13}),
            (pair_of_19_and_20(), {"A": 19, "B": 20}), (exchanged(pair_of_19_and_20()), {"A": 20, "B": 19}),
        ):
            for kind, most in kinds.items():
                for many in (1, most - 1, most):
                    chain = chain_above(pair, kind, many, "")
                    self.assertEqual(len(chain), many)
                    self.assertIs(is_chain(pair, kind, chain), True)
                if most < 20:
                    self.assertIsNone(chain_above(pair, kind, most + 1, ""))
        for kind in "AB":
            self.assertEqual(len(chain_above(pair_of_20_and_21(), kind, 20, "")), 20)

    def test_the_last_logs_of_a_long_chain_against_a_trial(self):
        # D(1) and D(0) are tried out: the last two logs, above the one before.
        pair = pair_of_11_and_12()
        chain = chain_above(pair, "B", 12, "")
        self.assertEqual(chain[-1], first_by_trial(pair, "A", 0, chain[-2], len(chain[-1])))
        self.assertEqual(chain[-2], first_by_trial(pair, "B", 1, chain[-3], len(chain[-2])))
        self.assertEqual(chain[:2], chain_above(pair, "B", 12, chain[0])[:2])

    def test_machines_without_logs(self):
        full = machine_of(2, 1, "0a0 0b0", (0,), (0,))
        for machine in machines_without_logs():
            for many in (1, 2, 3):
                self.assertIsNone(chain_above((machine, full), "A", many, ""))
                self.assertIsNone(chain_above((full, machine), "B", many, "a"))
            self.assertEqual(chain_above((machine, full), "B", 1, "ba"), ("ba",))
            self.assertIsNone(chain_above((machine, full), "B", 2, ""))

    def test_behind_edits(self):
        one, two = example_pair()
        pair = one, two
        self.assertEqual(chain_above(pair, "A", 2, ""), ("a", "ab"))
        one.add_edge(1, "b", 1)
        self.assertEqual(chain_above(pair, "A", 3, ""), ("a", "ab", "ab"))
        one.remove_edge(0, "a", 1)
        self.assertIsNone(chain_above(pair, "A", 2, ""))
        one.add_start(1)
        self.assertEqual(chain_above(pair, "A", 2, ""), ("", "ab"))
        two.add_end(0)
        self.assertEqual(chain_above(pair, "B", 2, ""), ("", ""))
        two.remove_end(0)
        self.assertIsNone(chain_above(pair, "B", 2, ""))

    def test_machines_are_not_modified(self):
        for pair in small_pairs()[::7] + [pair_of_46(), pair_of_log_201()]:
            before = [look_of(machine) for machine in pair]
            for kind in "AB":
                for many in (0, 1, 3, 7):
                    try:
                        chain_above(pair, kind, many, "a")
                    except LimitExceeded:
                        pass
            self.assertEqual([look_of(machine) for machine in pair], before)


class ChainLimitTest(ProgramCase):
    def refused(self, limit, *arguments):
        self.assertEqual(self.raised(LimitExceeded, chain_above, *arguments).limit, limit)

    def test_200_signs_are_allowed(self):
        stars = machine_of(2, 1, "0a0", (0,), (0,)), machine_of(2, 1, "0a0 0b0", (0,), (0,))
        for kind in "AB":
            for many in (1, 2, 3):
                for length in (199, 200):
                    self.assertEqual(chain_above(stars, kind, many, "a" * length), ("a" * length,) * many)
                self.refused(200, stars, kind, many, "a" * 201)
                self.refused(200, stars, kind, many, "a" * 1000)

    def test_a_log_that_is_longer_than_the_string(self):
        # Machine A has logs of 3, 8, 13 .. signs, machine B those of 0, 3, 6 ..
        one = machine_of(1, 6, "0a1 1a2 2a3 3a4 4a5 5a1", (0,), (3,))
        two = machine_of(1, 3, "0a1 1a2 2a0", (0,), (0,))
        self.assertEqual(chain_above((one, two), "A", 1, "a" * 194), ("a" * 198,))
        self.assertEqual(chain_above((one, two), "A", 1, "a" * 198), ("a" * 198,))
        self.refused(200, (one, two), "A", 1, "a" * 199)
        self.assertEqual(chain_above((one, two), "A", 2, "a" * 194), ("a" * 198, "a" * 198))
        self.assertEqual(chain_above((one, two), "B", 2, "a" * 193), ("a" * 195, "a" * 198))
        self.assertEqual(chain_above((one, two), "B", 1, "a" * 198), ("a" * 198,))
        # The second log is the one that is too long: 203 signs behind 199 or 201.
        self.refused(200, (one, two), "B", 2, "a" * 199)
        self.refused(200, (one, two), "B", 1, "a" * 199)
        rising = machine_of(1, 2, "0a1 1a0", (0,), (1,)), machine_of(1, 2, "0a1 1a0", (0,), (0,))
        self.assertEqual(chain_above(rising, "A", 2, "a" * 198), ("a" * 199, "a" * 200))
        self.refused(200, rising, "A", 3, "a" * 198)
        self.refused(200, rising, "B", 2, "a" * 200)
        self.assertEqual(chain_above(rising, "B", 1, "a" * 200), ("a" * 200,))

    def test_above_the_empty_string(self):
        chain = chain_above(pair_of_log_200(), "A", 7, "")
        self.assertEqual([len(log) for log in chain], [4, 5, 9, 18, 50, 80, 200])
        self.assertIs(is_chain(pair_of_log_200(), "A", chain), True)
        self.assertEqual(len(chain_above(pair_of_log_201(), "A", 6, "")), 6)
        self.refused(200, pair_of_log_201(), "A", 7, "")

    def test_a_string_outside_has_no_chain_however_long_it_is(self):
        stars = machine_of(2, 1, "0a0", (0,), (0,)), machine_of(2, 1, "0a0 0b0", (0,), (0,))
        self.assertIsNone(chain_above(stars, "A", 1, "a" * 300 + "b"))
        self.assertIsNone(chain_above(stars, "B", 2, "a" * 300 + "b"))
        self.refused(200, stars, "B", 1, "a" * 300 + "b")

    def test_as_downset_raises(self):
        self.refused(45, pair_of_46(), "A", 2, "")
        self.refused(45, pair_of_46(), "B", 3, "a" * 300)
        self.refused(45, pair_of_46_on_the_way(), "A", 3, "")
        self.refused(45, pair_of_46_for_b(), "B", 2, "")
        self.assertEqual(len(chain_above(pair_of_46_for_b(), "A", 1, "")), 1)
        self.assertIsNone(chain_above(pair_of_46_for_b(), "A", 2, ""))
        for kind, many in (("A", 0), ("A", 1), ("B", 1), ("B", 2)):
            self.assertEqual(len(chain_above(pair_of_46(), kind, many, "")), many)
        self.assertEqual(len(chain_above(pair_of_45(), "A", 2, "")), 2)

    def test_unpaired_comes_first(self):
        for one, two in permutations((1, 2, 3), 2):
            pair = machine_of(one, 1, "0a0", (0,), (0,)), machine_of(two, 1, "0a0", (0,), (0,))
            for many in (0, 1, 2, 20):
                self.raised(Unpaired, chain_above, pair, "A", many, "")
                self.raised(Unpaired, chain_above, pair, "B", many, "a" * 300)
        self.raised(Unpaired, chain_above, pair_of_46(3), "A", 2, "")


class DepthTest(ProgramCase):
    def test_the_example(self):
        self.assertEqual([depth_of(example_pair(), kind) for kind in "AB"], [2, 1])
        self.assertEqual([depth_of(exchanged(example_pair()), kind) for kind in "AB"], [1, 2])

    def test_small_pairs_against_a_search_for_chains(self):
        found = set()
        for place, pair in enumerate(small_pairs() + [ranked_pair(states) for states in (2, 3, 4, 5)]):
            endless = ladder_or_barrier(pair)[0] == "ladder"
            for kind in "AB":
                with self.subTest((place, kind)):
                    depth = depth_of(pair, kind)
                    found.add(depth)
                    if endless:
                        self.assertIsNone(depth)
                    else:
                        self.assertIs(type(depth), int)
                        self.assertIs(in_chain(pair, kind, depth, ""), True)
                        self.assertIs(in_chain(pair, kind, depth + 1, ""), False)
        self.assertLessEqual({0, 1, 2, 3, None}, found)

    def test_0_for_a_kind_without_logs(self):
        full = machine_of(2, 1, "0a0 0b0", (0,), (0,))
        for machine in machines_without_logs():
            self.assertEqual([depth_of((machine, full), kind) for kind in "AB"], [0, 1])
            self.assertEqual([depth_of((full, machine), kind) for kind in "AB"], [1, 0])
            self.assertEqual([depth_of((machine, machine), kind) for kind in "AB"], [0, 0])

    def test_none_where_there_is_a_ladder(self):
        for pair in pairs_of_stars():
            self.assertEqual([depth_of(pair, kind) for kind in "AB"], [None, None])

    def test_none_also_with_more_than_45_rests_on_the_way(self):
        self.raised(LimitExceeded, Downset, pair_of_46(), "A", 2)
        self.raised(LimitExceeded, Downset, pair_of_46(), "B", 3)
        self.assertEqual([depth_of(pair_of_46(), kind) for kind in "AB"], [None, None])

    def test_45_rests_without_a_ladder(self):
        for pair, kinds in ((pair_of_46_on_the_way(), "AB"), (pair_of_46_for_b(), "B")):
            self.assertEqual(ladder_or_barrier(pair)[0], "barrier")
            for kind in kinds:
                self.assertEqual(self.raised(LimitExceeded, depth_of, pair, kind).limit, 45)
        # Up to the first empty set only: for kind A the larger set is not met.
        self.assertEqual(depth_of(pair_of_46_for_b(), "A"), 1)
        self.raised(LimitExceeded, Downset, pair_of_46_for_b(), "A", 3)

    def test_up_to_20(self):
        for pair, depths in (
            (pair_of_11_and_12(), [11, 12]), (pair_of_12_and_13(), [12, 13]), (exchanged(pair_of_12_and_13()), [13, 12]),
        ):
            self.assertEqual([depth_of(pair, kind) for kind in "AB"], depths)
        self.assertEqual(depth_of(pair_of_19_and_20(), "A"), 19)
        self.assertEqual(depth_of(exchanged(pair_of_19_and_20()), "B"), 19)
        for pair, kind in (
            (pair_of_19_and_20(), "B"), (exchanged(pair_of_19_and_20()), "A"), (pair_of_20_and_21(), "A"),
            (pair_of_20_and_21(), "B"),
        ):
            self.assertIs(Downset(pair, kind, 20).is_empty(), False)
            self.assertEqual(self.raised(LimitExceeded, depth_of, pair, kind).limit, 20)

    def test_behind_each_kind_of_edit(self):
        one, two = example_pair()
        edits = (
            (lambda: one.add_edge(1, "b", 1), [None, None]), (lambda: one.remove_edge(1, "b", 1), [2, 1]),
            (lambda: two.add_start(2), [2, 3]), (lambda: two.remove_start(2), [2, 1]),
            (lambda: one.add_end(0), [2, 1]), (lambda: two.add_end(0), [None, None]),
            (lambda: one.remove_end(0), [2, 3]), (lambda: two.remove_end(2), [1, 2]),
            (lambda: one.remove_start(0), [0, 1]), (lambda: one.add_start(0), [1, 2]),
            (lambda: two.add_end(1), [None, None]), (lambda: two.remove_edge(0, "a", 1), [1, 2]),
        )
        self.assertEqual([depth_of((one, two), kind) for kind in "AB"], [2, 1])
        for place, (edit, depths) in enumerate(edits):
            edit()
            with self.subTest(place):
                self.assertEqual([depth_of((one, two), kind) for kind in "AB"], depths)
                for kind, depth in zip("AB", depths):
                    if depth is not None:
                        self.assertIs(in_chain((one, two), kind, depth, ""), True)
                        self.assertIs(in_chain((one, two), kind, depth + 1, ""), False)

    def test_machines_are_not_modified(self):
        for pair in small_pairs()[::7] + [pair_of_46(), pair_of_46_on_the_way(), pair_of_20_and_21()]:
            before = [look_of(machine) for machine in pair]
            for kind in "AB":
                try:
                    depth_of(pair, kind)
                except LimitExceeded:
                    pass
            self.assertEqual([look_of(machine) for machine in pair], before)

    def test_unpaired_comes_first(self):
        for one, two in permutations((1, 2, 3), 2):
            for kind in "AB":
                self.raised(Unpaired, depth_of, (Machine(one, 1), Machine(two, 1)), kind)
                pair = machine_of(one, 1, "0a0", (0,), (0,)), machine_of(two, 1, "0a0", (0,), (0,))
                self.raised(Unpaired, depth_of, pair, kind)
        self.raised(Unpaired, depth_of, pair_of_46(3), "A")


class IsChainTest(ProgramCase):
    def check(self, pair, kind, logs, answer):
        self.assertIs(is_chain(pair, kind, logs), answer, (kind, logs))

    def test_the_example(self):
        pair = example_pair()
        for logs, answers in (
            ((), (True, True)), (("a",), (True, False)), (("ab",), (False, True)), (("a", "ab"), (True, False)),
            (("ab", "a"), (False, False)), (("",), (False, False)), (("b",), (False, False)),
            (("a", "a"), (False, False)), (("ab", "ab"), (False, False)), (("a", "ab", "a"), (False, False)),
        ):
            for kind, answer in zip("AB", answers):
                self.check(pair, kind, logs, answer)

    def test_the_empty_tuple(self):
        for pair in (example_pair(), pairs_of_stars()[0], (Machine(3, 1), Machine(3, 2))):
            for kind in "AB":
                self.check(pair, kind, (), True)

    def test_changed_chains(self):
        # Odd numbers of signs for A, even ones for B.
        pair = pairs_of_stars()[1]
        chain = ("a", "aa", "aaa", "aaaa")
        self.check(pair, "A", chain, True)
        self.check(pair, "B", chain, False)
        self.check(pair, "B", chain[1:], True)
        self.check(pair, "B", ("",) + chain, True)
        for at in range(4):
            left = chain[:at] + chain[at + 1:]
            self.check(pair, "A", left, at == 3)
            self.check(pair, "A", chain[:at] + chain[at:at + 1] + chain[at:], False)
        self.check(pair, "A", ("a", "aaaa", "aaaaaaa"), True)
        for order in permutations(chain):
            self.check(pair, "A", order, order == chain)
        self.check(pair, "A", ("aaa", "aa", "aaa"), False)
        self.check(pair, "A", ("a", "aa", "a"), False)
        self.check(pair, "A", ("a", "aaaa", "aaa"), False)

    def test_a_log_that_the_next_one_does_not_contain(self):
        both = machine_of(2, 1, "0a0 0b0", (0,), (0,))
        pair = both, both
        for kind in "AB":
            self.check(pair, kind, ("ab", "aab", "aabb"), True)
            self.check(pair, kind, ("ab", "ba"), False)
            self.check(pair, kind, ("ab", "bbaa"), False)
            self.check(pair, kind, ("aab", "ab"), False)
            self.check(pair, kind, ("a", "b", "ab"), False)
            self.check(pair, kind, ("a", "ab", "bb"), False)
            self.check(pair, kind, ("", "", "a", "a"), True)

    def test_a_log_of_both_kinds_may_follow_itself(self):
        pair = machine_of(2, 3, "0a1 1b2", (0,), (1, 2)), machine_of(2, 3, "0a1 1b2", (0,), (2,))
        for kind in "AB":
            self.check(pair, kind, ("ab",) * 5, True)
            self.check(pair, kind, ("a", "a"), False)
        self.check(pair, "A", ("a", "ab", "ab"), True)
        self.check(pair, "B", ("a", "ab", "ab"), False)

    def test_against_the_definition(self):
        tried = {True: 0, False: 0}
        for pair in random_pairs(40, 2, 3, 6):
            for kind in "AB":
                for logs in ((one, two) for one in strings_up_to(2, "ab") for two in strings_up_to(3, "ab")):
                    machines = pair if kind == "A" else exchanged(pair)
                    answer = contains(logs[1], logs[0]) and all(
                        machine.has_log(log) for machine, log in zip(machines, logs))
                    self.check(pair, kind, logs, answer)
                    tried[answer] += 1
        self.assertGreater(min(tried.values()), 100)


class InterfaceTest(ProgramCase):
    def test_names_and_places(self):
        functions = {
            "chain_above": ["pair", "kind", "many", "string"], "depth_of": ["pair", "kind"],
            "is_chain": ["pair", "kind", "logs"],
        }
        self.check_interface(chains, functions)

    def test_arguments_by_name(self):
        pair = example_pair()
        self.assertEqual(chain_above(string="", many=2, kind="A", pair=pair), ("a", "ab"))
        self.assertEqual(chain_above(pair, "B", string="b", many=1), ("ab",))
        self.assertEqual(depth_of(kind="B", pair=pair), 1)
        self.assertEqual(depth_of(pair, kind="A"), 2)
        self.assertIs(is_chain(logs=("a", "ab"), kind="A", pair=pair), True)
        self.assertIs(is_chain(pair, logs=("a", "ab"), kind="B"), False)
        self.raised(Unpaired, chain_above, string="", many=2, kind="A", pair=pair_of_46(3))
        self.assertEqual(self.raised(LimitExceeded, depth_of, kind="B", pair=pair_of_46_for_b()).limit, 45)

    def test_examples_of_the_document(self):
        pair = example_pair()
        found = chain_above(pair, "A", 2, ""), depth_of(pair, "A"), depth_of(pair, "B")
        self.assertEqual(found, (("a", "ab"), 2, 1))


if __name__ == "__main__":
    unittest.main()
