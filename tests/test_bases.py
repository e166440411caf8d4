import unittest

from gaprules import bases
from gaprules.bases import basis
from gaprules.downsets import Downset
from gaprules.errors import LimitExceeded, Unpaired
from gaprules.machines import Machine
from gaprules.signs import contains
from tests.helpers import (
    ProgramCase, chain_cases, example_pair, in_chain, look_of, machine_of, machines_without_logs, pair_of_45,
    pair_of_46, pair_of_46_on_the_way, strings_up_to,
)


def pair_up_to(signs, most):
    """Machine A has all strings of the signs of just so many signs, machine B has none."""
    edges = [(place, sign, place + 1) for place in range(most) for sign in "abc"[:signs]]
    return machine_of(signs, most + 1, edges, (0,), (most,)), Machine(signs, 1)


def pair_of_244():
    """D_A(2) has 14 rests, its basis has 244 patterns."""
    return (
        machine_of(3, 6, "0b5 0c5 1a0 1b2 2c4 3b0 4a3 5a5 5b1 5c1", (0,), (0, 4)),
        machine_of(3, 6, "0a5 0b0 0c0 4a3 4b4 4c4 5a5 5b4", (0,), (3,)),
    )


class BasisCase(ProgramCase):
    def check_against_chains(self, pair, kind, depth, length):
        """Compare the patterns of up to this length with those found by trying out all strings."""
        patterns = basis(pair, kind, depth)
        self.assertIs(type(patterns), tuple)
        missing = []
        for string in strings_up_to(length, "abc"[:pair[0].signs]):
            outside = any(contains(string, pattern) for pattern in patterns)
            self.assertIs(outside, not in_chain(pair, kind, depth, string), string)
            if outside and not any(contains(string, least) for least in missing):
                missing.append(string)
        self.assertEqual([pattern for pattern in patterns if len(pattern) <= length], missing)
        self.check_form(patterns, Downset(pair, kind, depth))

    def check_form(self, patterns, downset):
        self.assertEqual(list(patterns), sorted(patterns, key=lambda pattern: (len(pattern), pattern)))
        for pattern in patterns:
            self.assertIs(downset.holds(pattern), False)
            self.assertLess(len(pattern), downset.rest_count())
            # Without any one sign a least string is in the set.
            for at in range(len(pattern)):
                self.assertIs(downset.holds(pattern[:at] + pattern[at + 1:]), True)
        self.assertEqual(len(patterns), len(set(patterns)))


class BasisTest(BasisCase):
    def test_depths_of_the_example(self):
        wanted = {
            ("A", 0): (), ("B", 0): (), ("A", 1): ("b", "aa"), ("B", 1): ("aa", "ba", "bb"),
            ("A", 2): ("b", "aa"), ("B", 2): ("",), ("A", 3): ("",), ("B", 3): ("",), ("A", 20): ("",),
        }
        for (kind, depth), patterns in wanted.items():
            with self.subTest((kind, depth)):
                self.assertEqual(basis(example_pair(), kind, depth), patterns)

    def test_sets_of_all_strings(self):
        for signs in (1, 2, 3):
            full = machine_of(signs, 1, [(0, sign, 0) for sign in "abc"[:signs]], (0,), (0,))
            pair = full, Machine(signs, 3)
            self.assertEqual([basis(pair, "A", depth) for depth in (0, 1)], [(), ()])
            self.assertEqual(basis(pair, "B", 0), ())
            for depth in (1, 2, 3, 20):
                self.assertEqual([basis((full, full), kind, depth) for kind in "AB"], [(), ()])

    def test_sets_of_no_strings(self):
        full = machine_of(2, 1, "0a0 0b0", (0,), (0,))
        for machine in machines_without_logs():
            for depth in (1, 2, 3):
                self.assertEqual(basis((machine, full), "A", depth), ("",))
                self.assertEqual(basis((full, machine), "B", depth), ("",))
                self.assertEqual(basis((machine, full), "B", depth), () if depth == 1 else ("",))

    def test_only_the_empty_string(self):
        for signs, patterns in ((1, ("a",)), (2, ("a", "b")), (3, ("a", "b", "c"))):
            machine = machine_of(signs, 1, "", (0,), (0,))
            for depth in (1, 2, 5):
                self.assertEqual(basis((machine, machine), "A", depth), patterns)

    def test_all_strings_of_up_to_so_many_signs(self):
        for signs in (1, 2, 3):
            for most in range(6 if signs < 3 else 5):
                letters = "abc"[:signs]
                longer = [string for string in strings_up_to(most + 1, letters) if len(string) == most + 1]
                self.assertEqual(basis(pair_up_to(signs, most), "A", 1), tuple(longer))

    def test_one_log(self):
        for log in strings_up_to(4, "ab") + ["abc", "aabbc", "cacba", "abcab"]:
            edges = [(place, sign, place + 1) for place, sign in enumerate(log)]
            machine = machine_of(3, len(log) + 1, edges, (0,), (len(log),))
            patterns = basis((machine, Machine(3, 1)), "A", 1)
            for string in strings_up_to(5):
                self.assertIs(any(contains(string, pattern) for pattern in patterns), not contains(log, string))
            self.check_form(patterns, Downset((machine, Machine(3, 1)), "A", 1))

    def test_stars(self):
        # a*b*a* and the strings of one sign alone.
        pair = machine_of(2, 3, "0a0 0b1 1b1 1a2 2a2", (0,), (0, 1, 2)), machine_of(2, 2, "0a0 1b1", (0, 1), (0, 1))
        self.assertEqual(basis(pair, "A", 1), ("bab",))
        self.assertEqual(basis(pair, "B", 1), ("ab", "ba"))
        self.assertEqual(basis(pair, "A", 2), ("ab", "ba"))

    def test_order_is_by_length_then_by_alphabet(self):
        # The logs are "aab" and "cb" with any number of c in front.
        pair = machine_of(3, 5, "0a1 1a2 2b3 4c4 4b3", (0, 4), (3,)), Machine(3, 1)
        patterns = basis(pair, "A", 1)
        self.assertEqual(patterns, ("ac", "ba", "bb", "bc", "ca", "aaa"))

    def test_small_and_larger_pairs(self):
        for place, case in enumerate(chain_cases()):
            with self.subTest(place):
                self.check_against_chains(*case)

    def test_a_string_is_in_the_set_if_it_contains_no_pattern(self):
        patterns = basis(pair_of_45(), "A", 2)
        downset = Downset(pair_of_45(), "A", 2)
        self.check_form(patterns, downset)
        self.assertGreater(len(patterns), 20)
        for string in strings_up_to(9, "ab"):
            self.assertIs(downset.holds(string), not any(contains(string, pattern) for pattern in patterns))


class EditTest(BasisCase):
    def test_the_basis_is_that_of_the_machines_as_they_are(self):
        one, two = example_pair()
        pair = one, two
        self.assertEqual(basis(pair, "A", 1), ("b", "aa"))
        one.add_edge(1, "b", 1)
        self.assertEqual(basis(pair, "A", 1), ("aa", "ba"))
        self.assertEqual(basis(pair, "B", 2), ("aa", "ba", "bb"))
        one.remove_edge(0, "a", 1)
        self.assertEqual([basis(pair, "A", 1), basis(pair, "B", 2)], [("",), ("",)])
        one.add_start(1)
        self.assertEqual([basis(pair, "A", 1), basis(pair, "B", 2)], [("a",), ("",)])
        two.add_end(0)
        self.assertEqual([basis(pair, "B", 2), basis(pair, "A", 2)], [("a", "b"), ("a", "bb")])

    def test_machines_are_not_modified(self):
        for pair in (example_pair(), pair_of_45(), pair_of_46(), pair_of_244()):
            before = [look_of(machine) for machine in pair]
            for depth in range(3):
                try:
                    basis(pair, "A", depth)
                except LimitExceeded:
                    pass
            self.assertEqual([look_of(machine) for machine in pair], before)


class LimitTest(BasisCase):
    def test_243_patterns_are_allowed(self):
        patterns = basis(pair_up_to(3, 4), "A", 1)
        self.assertEqual(len(patterns), 243)
        self.assertEqual((patterns[0], patterns[-1]), ("aaaaa", "ccccc"))

    def test_244_patterns_are_not(self):
        pair = pair_of_244()
        self.assertEqual(Downset(pair, "A", 2).rest_count(), 14)
        self.assertEqual(self.raised(LimitExceeded, basis, pair, "A", 2).limit, 243)
        self.assertEqual(self.many_least_strings(Downset(pair, "A", 2)), 244)

    def many_least_strings(self, downset):
        """Count the least strings outside, sign by sign.

        A string goes on to one only if each of its signs makes a difference to what may follow.
        """
        many, level = 0, [""]
        while level:
            longer = []
            for string in level:
                shorter = [string[:at] + string[at + 1:] for at in range(len(string))]
                if not downset.holds(string):
                    many += all(downset.holds(other) for other in shorter)
                elif not any(downset.same(string, other) for other in shorter):
                    longer.extend(string + sign for sign in "abc")
            level = longer
        return many

    def test_many_more(self):
        # All strings of up to five signs, but the last one is not "c".
        edges = [(place, sign, place + 1) for place in range(5) for sign in "abc"][:14]
        pair = machine_of(3, 6, edges, (0,), (5,)), Machine(3, 1)
        self.assertEqual(self.raised(LimitExceeded, basis, pair, "A", 1).limit, 243)
        self.assertEqual(basis(pair, "B", 1), ("",))

    def test_too_many_rests_come_first(self):
        self.assertEqual(self.raised(LimitExceeded, basis, pair_of_46(), "A", 2).limit, 45)
        self.assertEqual(self.raised(LimitExceeded, basis, pair_of_46_on_the_way(), "B", 2).limit, 45)
        self.assertEqual(self.raised(LimitExceeded, basis, pair_of_46_on_the_way(), "A", 3).limit, 45)

    def test_only_the_set_itself_counts(self):
        # The set on the way has more than 243 patterns, the one that is built from it has three.
        edges = [(place, sign, place + 1) for place in range(5) for sign in "abc"][:14]
        pair = machine_of(3, 6, edges, (0,), (5,)), machine_of(3, 1, "0a0", (0,), (0,))
        self.assertEqual(self.raised(LimitExceeded, basis, pair, "A", 1).limit, 243)
        self.assertEqual(basis(pair, "B", 2), ("b", "c", "aaaaaa"))


class InterfaceTest(BasisCase):
    def test_unlike_numbers_of_signs(self):
        for depth in (0, 1, 2):
            self.raised(Unpaired, basis, (Machine(1, 2), Machine(2, 2)), "A", depth)
            self.raised(Unpaired, basis, (pair_up_to(3, 4)[0], Machine(2, 1)), "A", depth)
            self.raised(Unpaired, basis, pair_of_46(3), "A", depth)

    def test_names_and_places(self):
        self.check_interface(bases, {"basis": ["pair", "kind", "depth"]})

    def test_arguments_by_name(self):
        self.assertEqual(basis(depth=1, kind="A", pair=example_pair()), ("b", "aa"))
        self.assertEqual(basis(example_pair(), "B", depth=1), ("aa", "ba", "bb"))
        self.assertEqual(self.raised(LimitExceeded, basis, depth=2, kind="A", pair=pair_of_46()).limit, 45)

    def test_examples_of_the_document(self):
        self.assertEqual(basis(example_pair(), "A", 1), ("b", "aa"))


if __name__ == "__main__":
    unittest.main()
