import unittest

from gaprules import downsets
from gaprules.downsets import Downset
from gaprules.errors import LimitExceeded, Unpaired
from gaprules.machines import Machine
from tests.helpers import (
    ProgramCase, chain_cases, example_pair, in_chain, look_of, machine_of, machines_without_logs, pair_of_45,
    pair_of_46, pair_of_46_on_the_way, random_pairs, rest_count_by_chains, strings_up_to,
)


def strings_held(downset, length, letters):
    return [string for string in strings_up_to(length, letters) if downset.holds(string)]


class DownsetCase(ProgramCase):
    def check_against_chains(self, pair, kind, depth, length):
        """Compare all answers with those of a search for chains, for strings up to the length."""
        letters = "abc"[:pair[0].signs]
        downset = Downset(pair, kind, depth)
        held = {string: in_chain(pair, kind, depth, string) for string in strings_up_to(length, letters)}
        for string, answer in held.items():
            self.assertIs(downset.holds(string), answer, string)
        self.assertIs(downset.is_empty(), not held[""])
        self.assertEqual(downset.rest_count(), rest_count_by_chains(pair, kind, depth))
        self.check_same(downset, held, length // 2, letters)

    def check_same(self, downset, held, half, letters):
        """Compare same with what strings of up to half the length are held behind the two."""
        rests = {
            string: tuple(held[string + behind] for behind in strings_up_to(half, letters))
            for string in strings_up_to(half, letters)
        }
        # Strings shorter than the number of rests tell all of them apart.
        exact = downset.rest_count() <= half + 1
        for string in rests:
            for other in rests:
                if exact or rests[string] != rests[other]:
                    self.assertIs(downset.same(string, other), rests[string] == rests[other], (string, other))


class HoldsTest(DownsetCase):
    def test_depths_of_the_example(self):
        sets = {
            ("A", 0): strings_up_to(3, "ab"), ("B", 0): strings_up_to(3, "ab"),
            ("A", 1): ["", "a"], ("B", 1): ["", "a", "b", "ab"],
            ("A", 2): ["", "a"], ("B", 2): [],
            ("A", 3): [], ("B", 3): [], ("A", 4): [], ("B", 4): [], ("A", 20): [], ("B", 20): [],
        }
        for (kind, depth), strings in sets.items():
            with self.subTest((kind, depth)):
                downset = Downset(example_pair(), kind, depth)
                self.assertEqual(strings_held(downset, 3, "ab"), strings)
                self.assertIs(downset.is_empty(), strings == [])

    def test_depth_0_holds_all_strings(self):
        for signs in (1, 2, 3):
            letters = "abc"[:signs]
            pair = machine_of(signs, 2, "0a1", (0,), (1,)), Machine(signs, 6)
            for kind in "AB":
                downset = Downset(pair, kind, 0)
                self.assertEqual(strings_held(downset, 4, letters), strings_up_to(4, letters))
                self.assertIs(downset.holds(letters * 500), True)
                self.assertIs(downset.is_empty(), False)
                self.assertEqual(downset.rest_count(), 1)
                self.assertIs(downset.same("", letters), True)

    def test_small_and_larger_pairs(self):
        for place, case in enumerate(chain_cases()):
            with self.subTest(place):
                self.check_against_chains(*case)

    def test_kinds_take_turns(self):
        # Machine A has a*, machine B has b* and "a": only "a" and "" are in chains with both.
        pair = machine_of(2, 1, "0a0", (0,), (0,)), machine_of(2, 3, "0b0 1a2", (0, 1), (0, 2))
        self.assertEqual(strings_held(Downset(pair, "A", 1), 3, "ab"), ["", "a", "aa", "aaa"])
        self.assertEqual(strings_held(Downset(pair, "B", 1), 3, "ab"), ["", "a", "b", "bb", "bbb"])
        for depth in (2, 3, 4, 5):
            self.assertEqual(strings_held(Downset(pair, "A", depth), 3, "ab"), ["", "a"])
            self.assertEqual(strings_held(Downset(pair, "B", depth), 3, "ab"), ["", "a"])

    def test_endless_pair(self):
        # (ab)* and (ba)*: each log is contained in later ones of the other kind.
        pair = machine_of(2, 2, "0a1 1b0", (0,), (0,)), machine_of(2, 2, "0b1 1a0", (0,), (0,))
        for kind in "AB":
            for depth in (1, 2, 3, 20):
                downset = Downset(pair, kind, depth)
                self.assertEqual(strings_held(downset, 4, "ab"), strings_up_to(4, "ab"))
                self.assertEqual(downset.rest_count(), 1)

    def test_one_machine_twice(self):
        machine = machine_of(2, 3, "0a1 1b1 1a2 2a2", (0,), (1,))
        once = strings_held(Downset((machine, machine), "A", 1), 5, "ab")
        for kind in "AB":
            for depth in (1, 2, 3, 7):
                self.assertEqual(strings_held(Downset((machine, machine), kind, depth), 5, "ab"), once)

    def test_machines_without_logs(self):
        full = machine_of(2, 1, "0a0 0b0", (0,), (0,))
        for machine in machines_without_logs():
            for kind, pair in (("A", (machine, full)), ("B", (full, machine))):
                self.check_empty(Downset(pair, kind, 1))
                other = Downset(pair, "BA"["AB".index(kind)], 1)
                self.assertEqual((other.is_empty(), other.rest_count(), other.holds("ab")), (False, 1, True))
                for depth in (2, 3, 20):
                    self.check_empty(Downset(pair, "A", depth))
                    self.check_empty(Downset(pair, "B", depth))

    def check_empty(self, downset):
        self.assertEqual((downset.is_empty(), downset.rest_count()), (True, 1))
        self.assertEqual((downset.holds(""), downset.holds("ab"), downset.same("", "ba")), (False, False, True))

    def test_only_the_empty_log(self):
        pair = machine_of(1, 1, "", (0,), (0,)), machine_of(1, 1, "0a0", (0,), (0,))
        for kind in "AB":
            for depth in (2, 3, 20):
                downset = Downset(pair, kind, depth)
                self.assertEqual((downset.holds(""), downset.holds("a"), downset.rest_count()), (True, False, 2))


class ShapeTest(DownsetCase):
    def pairs(self):
        return random_pairs(15, 2, 6, 14) + random_pairs(10, 3, 6, 12) + [example_pair(), pair_of_45()]

    def test_with_a_string_all_that_it_contains(self):
        for place, pair in enumerate(self.pairs()):
            letters = "abc"[:pair[0].signs]
            for depth in (1, 2, 3):
                with self.subTest((place, depth)):
                    downset = Downset(pair, "A", depth)
                    for string in strings_held(downset, 5, letters):
                        for at in range(len(string)):
                            self.assertIs(downset.holds(string[:at] + string[at + 1:]), True)

    def test_a_deeper_set_lies_in_the_sets_before(self):
        for place, pair in enumerate(self.pairs()):
            letters = "abc"[:pair[0].signs]
            before = {kind: set(strings_up_to(5, letters)) for kind in "AB"}
            for depth in (1, 2, 3, 4):
                with self.subTest((place, depth)):
                    try:
                        now = {kind: set(strings_held(Downset(pair, kind, depth), 5, letters)) for kind in "AB"}
                    except LimitExceeded:
                        break
                    for kind in "AB":
                        self.assertLessEqual(now[kind], before["A"] & before["B"])
                    before = now


class RestTest(DownsetCase):
    def test_the_rest_without_strings_counts(self):
        # "a" alone: the rests after "" and "a", and the one that holds no string.
        downset = Downset(example_pair(), "A", 1)
        self.assertEqual(downset.rest_count(), 3)
        self.assertEqual([downset.same("", "a"), downset.same("", "b"), downset.same("a", "b")], [False] * 3)
        self.assertEqual([downset.same("b", "aa"), downset.same("ba", "abab")], [True] * 2)
        self.assertEqual([downset.same("a", "a"), downset.same("", "")], [True] * 2)

    def test_states_in_between_do_not_count(self):
        # Five states and many edges for all strings of a and b, then for "a" alone.
        ring = "0a1 0b1 1a2 1b2 2a3 2b3 3a4 3b4 4a0 4b0"
        pair = machine_of(2, 5, ring, (0, 3), (1, 4)), machine_of(2, 6, "0a1 2a3 4a5 0a3 2a5", (0, 2, 4), (1, 3, 5))
        self.assertEqual(Downset(pair, "A", 1).rest_count(), 1)
        self.assertEqual(Downset(pair, "B", 1).rest_count(), 3)
        self.assertEqual([Downset(pair, kind, 2).rest_count() for kind in "AB"], [3, 3])

    def test_lines_of_one_log(self):
        for many in range(1, 6):
            line = "".join("abc"[place % 3] for place in range(many))
            edges = [(place, sign, place + 1) for place, sign in enumerate(line)]
            pair = machine_of(3, 6, edges, (0,), (many,)), Machine(3, 1)
            downset = Downset(pair, "A", 1)
            self.assertEqual(downset.rest_count(), many + 2)
            self.assertIs(downset.same(line[:1], line[:2]), many == 1)

    def test_strings_up_to_a_length(self):
        for most in range(6):
            edges = [(place, sign, place + 1) for place in range(most) for sign in "ab"]
            pair = Machine(2, 1), machine_of(2, 6, edges, (0,), (most,))
            downset = Downset(pair, "B", 1)
            self.assertEqual(downset.rest_count(), most + 2)
            self.assertIs(downset.same("a" * most, "b" * most), True)
            self.assertIs(downset.same("a" * most, "b" * (most + 1)), False)
            self.assertIs(downset.same("a" * (most + 1), "b" * (most + 2)), True)

    def test_same_asks_for_the_rests_not_the_strings(self):
        # a*b*: behind a "b" only "b" goes on, however many there were.
        pair = machine_of(2, 2, "0a0 0b1 1b1", (0,), (1,)), Machine(2, 1)
        downset = Downset(pair, "A", 1)
        self.assertEqual(downset.rest_count(), 3)
        for string, other, same in (
            ("", "aaa", True), ("b", "aab", True), ("bb", "b", True), ("", "b", False), ("ba", "b", False),
            ("ba", "aba", True), ("ba", "", False),
        ):
            self.assertIs(downset.same(string, other), same, (string, other))
            self.assertIs(downset.same(other, string), same, (other, string))


class EditTest(DownsetCase):
    def answers(self, downset):
        return downset.rest_count(), downset.is_empty(), strings_held(downset, 4, "ab"), downset.same("a", "b")

    def test_a_set_stays_as_it_was(self):
        pair = example_pair()
        made = {(kind, depth): Downset(pair, kind, depth) for kind in "AB" for depth in (0, 1, 2)}
        before = {key: self.answers(downset) for key, downset in made.items()}
        pair[0].add_edge(1, "b", 1)
        pair[0].add_end(0)
        pair[1].remove_edge(0, "a", 1)
        pair[1].add_start(1)
        for key, downset in made.items():
            self.assertEqual(self.answers(downset), before[key])
        for key in (("A", 1), ("B", 1), ("A", 2), ("B", 2)):
            self.assertNotEqual(self.answers(Downset(pair, *key)), before[key])

    def test_a_later_set_is_that_of_the_machines_as_they_are(self):
        one, two = example_pair()
        pair = one, two
        self.check_against_chains(pair, "A", 2, 5)
        edits = (
            lambda: one.add_edge(1, "b", 1), lambda: one.add_end(0), lambda: two.add_edge(2, "a", 1),
            lambda: two.remove_edge(0, "a", 1), lambda: two.add_start(1), lambda: one.remove_start(0),
            lambda: one.add_start(1), lambda: two.remove_end(2),
        )
        for place, edit in enumerate(edits):
            edit()
            for kind in "AB":
                for depth in (1, 2):
                    with self.subTest((place, kind, depth)):
                        self.check_against_chains(pair, kind, depth, 5)

    def test_an_edit_taken_back(self):
        pair = example_pair()
        before = self.answers(Downset(pair, "B", 1))
        pair[1].add_edge(2, "b", 2)
        self.assertNotEqual(self.answers(Downset(pair, "B", 1)), before)
        pair[1].remove_edge(2, "b", 2)
        self.assertEqual(self.answers(Downset(pair, "B", 1)), before)

    def test_machines_are_not_modified(self):
        for pair in (example_pair(), pair_of_45(), pair_of_46()):
            before = [look_of(machine) for machine in pair]
            for kind in "AB":
                for depth in range(4):
                    try:
                        downset = Downset(pair, kind, depth)
                        downset.holds("ab"), downset.same("a", "b"), downset.is_empty(), downset.rest_count()
                    except LimitExceeded:
                        pass
            self.assertEqual([look_of(machine) for machine in pair], before)

    def test_questions_change_nothing(self):
        downset = Downset(pair_of_45(), "A", 2)
        before = self.answers(downset)
        for _ in range(3):
            self.assertEqual(self.answers(downset), before)


class LimitTest(DownsetCase):
    def refused(self, pair, kind, depth):
        self.assertEqual(self.raised(LimitExceeded, Downset, pair, kind, depth).limit, 45)

    def test_45_rests_are_allowed(self):
        self.assertEqual(Downset(pair_of_45(), "B", 1).rest_count(), 7)
        downset = Downset(pair_of_45(), "A", 2)
        self.assertEqual(downset.rest_count(), 45)
        self.assertIs(downset.is_empty(), False)
        # A set that is built from one of 45 rests.
        self.assertLessEqual(Downset(pair_of_45(), "B", 3).rest_count(), 45)

    def test_46_rests_are_not(self):
        self.assertEqual(Downset(pair_of_46(), "B", 1).rest_count(), 13)
        self.refused(pair_of_46(), "A", 2)

    def test_only_a_set_on_the_way_has_more(self):
        pair = pair_of_46_on_the_way()
        self.assertEqual(Downset(pair, "A", 1).rest_count(), 7)
        self.refused(pair, "B", 2)
        # No chain of three logs begins with kind A, but the set is built from one with 46 rests.
        self.assertIs(in_chain(pair, "A", 3, ""), False)
        self.refused(pair, "A", 3)
        for depth in (4, 5, 20):
            self.refused(pair, "AB"[depth % 2 == 0], depth)

    def test_sets_of_the_other_turn_do_not_matter(self):
        pair = pair_of_46_on_the_way()
        for kind, depth in (("A", 0), ("B", 0), ("A", 1), ("B", 1), ("A", 2)):
            self.assertLessEqual(Downset(pair, kind, depth).rest_count(), 45)
        pair = pair_of_46()
        self.assertLessEqual(Downset(pair, "B", 2).rest_count(), 45)

    def test_the_counts_are_those_of_the_chains(self):
        counts = [[rest_count_by_chains(pair_of_45(), *key) for key in (("B", 1), ("A", 2))]]
        counts.append([rest_count_by_chains(pair_of_46(), *key) for key in (("B", 1), ("A", 2))])
        counts.append([rest_count_by_chains(pair_of_46_on_the_way(), *key) for key in (("A", 1), ("B", 2), ("A", 3))])
        self.assertEqual(counts, [[7, 45], [13, 46], [7, 46, 1]])

    def test_many_pairs_at_the_limit(self):
        for place, pair in enumerate(random_pairs(60, 2, 6, 14) + random_pairs(60, 3, 6, 14)):
            with self.subTest(place):
                counts = [rest_count_by_chains(pair, kind, depth) for kind, depth in (("B", 1), ("A", 2))]
                if max(counts) > 45:
                    self.refused(pair, "A", 2)
                else:
                    self.assertEqual(Downset(pair, "A", 2).rest_count(), counts[1])


class WrongPairTest(DownsetCase):
    def test_unlike_numbers_of_signs(self):
        for one in (1, 2, 3):
            for two in (1, 2, 3):
                if one != two:
                    pair = machine_of(one, 2, "0a1", (0,), (1,)), machine_of(two, 2, "0a1", (0,), (1,))
                    for kind in "AB":
                        for depth in (0, 1, 2, 20):
                            self.raised(Unpaired, Downset, pair, kind, depth)

    def test_unpaired_comes_ahead_of_the_limit(self):
        self.refused_as_unpaired(pair_of_46(3))
        self.assertEqual(self.raised(LimitExceeded, Downset, pair_of_46(), "A", 2).limit, 45)

    def refused_as_unpaired(self, pair):
        before = [look_of(machine) for machine in pair]
        for depth in (0, 2, 3):
            self.raised(Unpaired, Downset, pair, "A", depth)
        self.assertEqual([look_of(machine) for machine in pair], before)


class InterfaceTest(DownsetCase):
    def test_names_and_places(self):
        methods = {
            "__init__": ["pair", "kind", "depth"], "holds": ["string"], "is_empty": [], "rest_count": [],
            "same": ["string", "other"],
        }
        self.check_interface(downsets, {"Downset": ["pair", "kind", "depth"]}, [("Downset", methods)])

    def test_arguments_by_name(self):
        downset = Downset(depth=1, kind="B", pair=example_pair())
        self.assertEqual((downset.holds(string="ab"), downset.holds(string="ba")), (True, False))
        self.assertEqual(self.raised(LimitExceeded, Downset, depth=2, kind="A", pair=pair_of_46()).limit, 45)
        self.raised(Unpaired, Downset, pair_of_46(3), depth=1, kind="A")

    def test_kinds_of_the_answers(self):
        downset = Downset(example_pair(), "A", 1)
        self.assertIs(type(downset.rest_count()), int)
        for answer in (downset.holds(""), downset.is_empty(), downset.same("", "a"), downset.same("b", "b")):
            self.assertIs(type(answer), bool)

    def test_examples_of_the_document(self):
        pair = example_pair()
        self.assertEqual((Downset(pair, "A", 1).rest_count(), Downset(pair, "A", 1).holds("b")), (3, False))

    def test_depths_somewhat_beyond(self):
        for depth in (21, 25):
            self.assertIs(Downset(example_pair(), "A", depth).is_empty(), True)


if __name__ == "__main__":
    unittest.main()
