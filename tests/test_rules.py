import copy
import unittest
from itertools import permutations

from gaprules import rules as rules_module
from gaprules.errors import InvalidRules, LimitExceeded, Unpaired
from gaprules.machines import Machine
from gaprules.rules import answer_of, require_rules, rules_fault
from tests.helpers import (
    ProgramCase, example_pair, look_of, machine_of, machines_without_logs, random_pairs, strings_up_to,
)
from tests.rulesets import alternating, random_rules

WRONG_PATTERNS = (
    "d", "ab c", "A", "a\n", "-", "a" * 25, 0, 1, 7, -3, 10 ** 29, True, False, None, (), ("a",), [], ["a"], {}, {"a": 1},
)
WRONG_ANSWERS = ("", "C", "AB", "a", "b", "A ", 0, 1, True, False, None, (), ("A",), ["A"], {"A": "B"}, 10 ** 29)
NOT_TUPLES = ("", "ab", "AB", 0, 2, True, False, None, [], ["a"], {}, {"a": "b"})


class RequireRulesTest(ProgramCase):
    def refused(self, value, place, signs=2):
        before = copy.deepcopy(value)
        error = self.raised(InvalidRules, require_rules, value, signs)
        self.assertEqual(error.place, place)
        self.assertIs(type(error.place), tuple)
        self.assertEqual(repr(value), repr(before))

    def accepted(self, value, signs=2):
        before = copy.deepcopy(value)
        self.assertIs(require_rules(value, signs), value)
        self.assertEqual(value, before)

    def test_right_rules(self):
        for last in "AB":
            self.accepted(((), last))
            for many in range(1, 12):
                self.accepted(alternating(last, [("ab",)] * many))
        self.accepted(((("B", ("b", "aa")),), "A"))
        self.accepted(((("B", ("",)),), "A"))
        self.accepted(((("A", ("ab", "ab", "", "a")), ("B", ("",))), "A"))

    def test_eleven_blocks_and_not_twelve(self):
        for last in "AB":
            self.accepted(alternating(last, [("a",)] * 11))
            self.refused(alternating(last, [("a",)] * 12), ())
            self.refused((((),) * 12, last), ())

    def test_1_to_24_patterns(self):
        for many in (1, 2, 23, 24):
            self.accepted(((("B", ("ab",) * many),), "A"))
        for many in (0, 25, 26, 100):
            self.refused(((("B", ("ab",) * many),), "A"), (0,))
            self.refused(alternating("A", [("a",), ("a",) * 24, ("a",) * many]), (2,))
        # Too many of them comes ahead of what is wrong with one of them.
        self.refused(((("B", (7,) * 25),), "A"), (0,))

    def test_patterns_of_at_most_24_signs(self):
        for length in (0, 1, 23, 24):
            self.accepted(((("B", ("b" * length,)),), "A"))
            self.accepted(((("B", ("a", "ab" * (length // 2))),), "A"))
        for length in (25, 26, 400):
            self.refused(((("B", ("b" * length,)),), "A"), (0, 0))
            self.refused(((("B", ("a", "", "b" * length)),), "A"), (0, 2))

    def test_patterns_of_the_signs(self):
        for signs in (1, 2, 3):
            for sign in "abc":
                for pattern in (sign, "a" + sign, sign + "aaa"):
                    value = ((("B", ("a", pattern)),), "A")
                    if sign in "abc"[:signs]:
                        self.accepted(value, signs)
                    else:
                        self.refused(value, (0, 1), signs)

    def test_no_pattern(self):
        for wrong in WRONG_PATTERNS:
            self.refused(((("B", (wrong,)),), "A"), (0, 0))
            self.refused(((("B", ("a", "b", wrong)),), "A"), (0, 2))
            self.refused(((("B", ("a", wrong, "b", wrong)),), "A"), (0, 1))
            self.refused(alternating("B", [("a",), ("b",), ("", wrong)]), (2, 1))
            self.refused(alternating("B", [("a",)] * 10 + [(wrong,)]), (10, 0))
            self.refused(((("B", ("a",) * 23 + (wrong,)),), "A"), (0, 23))

    def test_no_answer(self):
        for wrong in WRONG_ANSWERS:
            self.refused(((), wrong), ())
            self.refused(((("B", ("a",)),), wrong), ())
            self.refused((((wrong, ("a",)),), "A"), (0,))
            self.refused((((wrong, ("a",)),), "B"), (0,))
            self.refused(((("B", ("a",)), (wrong, ("a",))), "A"), (1,))

    def test_no_tuples(self):
        for wrong in NOT_TUPLES:
            self.refused(wrong, ())
            self.refused((wrong, "A"), ())
            self.refused(((wrong,), "A"), (0,))
            self.refused(((("B", ("a",)), wrong), "B"), (1,))
            self.refused(((("B", wrong),), "A"), (0,))
            self.refused(((("B", ("a",)), ("A", wrong)), "B"), (1,))

    def test_tuples_of_other_lengths(self):
        block = ("B", ("a",))
        for wrong in ((), ((),), ("A",), ("A", ()), ((), "A", "B"), ((block,), "A", "A"), ("A", "B"), (("A",), ("B",))):
            self.refused(wrong, ())
        for wrong in ((), ("B",), (("a",),), ("B", ("a",), ()), ("B", "a", "b"), (("a",), "B"), (("B", ("a",)),)):
            self.refused(((wrong,), "A"), (0,))
            self.refused(((block, wrong), "B"), (1,))

    def test_the_answer_of_the_one_before(self):
        for answer in "AB":
            for last in "AB":
                self.refused((((answer, ("a",)), (answer, ("b",))), last), (1,))
        self.refused(((("B", ("a",)), ("A", ("a",)), ("A", ("b",))), "B"), (2,))
        self.refused(((("B", ("a",)), ("B", ("a",)), ("B", ("b",))), "A"), (1,))
        # It comes ahead of the patterns of its block, and behind those of the one before.
        self.refused(((("B", ("a",)), ("B", ("d",))), "A"), (1,))
        self.refused(((("B", ("d",)), ("B", ("d",))), "A"), (0, 0))

    def test_the_last_answer_of_the_last_block(self):
        for last in "AB":
            for many in range(1, 12):
                blocks = alternating(last, [("a",)] * many)[0]
                self.refused((blocks, "BA"["AB".index(last)]), ())

    def test_block_by_block(self):
        good, bad = ("B", ("a",)), ("B", ("a", 7))
        self.refused(((bad, 5), "A"), (0, 1))
        self.refused(((good, 5, bad), "A"), (1,))
        self.refused(((good, ("A", ("", "c")), ("B", 5)), "A"), (1, 1))
        self.refused(((good, ("A", ()), bad), "A"), (1,))
        # The last answer is asked for first, but whether it is that of the last block at the end.
        self.refused(((bad, 5), "C"), ())
        self.refused(((bad,), "B"), (0, 1))
        self.refused(((good, 5), "B"), (1,))
        self.refused(((good,), "B"), ())
        self.refused((((("A", ("a",)),) + (good,)), "B"), ())

    def test_booleans_are_no_strings(self):
        for wrong in (True, False, 0, 1):
            self.refused((wrong, wrong), ())
            self.refused((((wrong, (wrong,)),), "A"), (0,))


class AnswerTest(ProgramCase):
    def check(self, rules, answers):
        for log, wanted in answers.items():
            found = answer_of(rules, log)
            self.assertEqual(found, wanted, log)
            self.assertEqual([type(part) for part in found], [str, int])

    def test_the_first_block_that_fits(self):
        rules = ((("B", ("ab", "cc")), ("A", ("a", "bb")), ("B", ("b",))), "A")
        self.check(rules, {
            "": ("A", 4), "c": ("A", 4), "b": ("B", 3), "bc": ("B", 3), "a": ("A", 2), "ba": ("A", 2), "bb": ("A", 2),
            "bcb": ("A", 2), "ab": ("B", 1), "acb": ("B", 1), "cac": ("B", 1), "bbaab": ("B", 1), "cbc": ("B", 1),
        })

    def test_without_blocks(self):
        for last in "AB":
            self.check(((), last), {log: (last, 1) for log in strings_up_to(3)})

    def test_the_empty_pattern(self):
        rules = ((("B", ("b",)), ("A", ("",))), "B")
        self.check(rules, {"": ("A", 2), "a": ("A", 2), "ab": ("B", 1)})
        self.check(((("A", ("", "a")),), "B"), {"": ("A", 1), "bb": ("A", 1)})

    def test_the_empty_log(self):
        self.check(((("B", ("b", "aa")),), "A"), {"": ("A", 2)})

    def test_eleven_blocks(self):
        # The block at t asks for 11 - t signs a.
        rules = alternating("A", [("a" * (11 - place),) for place in range(11)])
        for many in range(15):
            number = max(12 - many, 1)
            self.check(rules, {"a" * many: ("BA"[number % 2 == 0], number), "ba" * many: ("BA"[number % 2 == 0], number)})

    def test_random_rules_against_the_definition(self):
        numbers = set()
        for rules in random_rules(60, 3):
            for log in strings_up_to(5):
                number = 1
                for _, patterns in rules[0]:
                    if any(contains_by_search(log, pattern) for pattern in patterns):
                        break
                    number += 1
                answers = [answer for answer, _ in rules[0]] + [rules[1]]
                self.check(rules, {log: (answers[number - 1], number)})
                numbers.add(number)
        self.assertLessEqual({1, 2, 3, 4}, numbers)


def contains_by_search(log, pattern):
    if pattern == "":
        return True
    return any(log[at] == pattern[0] and contains_by_search(log[at + 1:], pattern[1:]) for at in range(len(log)))


def answer_by_search(rules, log):
    for answer, patterns in rules[0]:
        if any(contains_by_search(log, pattern) for pattern in patterns):
            return answer
    return rules[1]


def fault_by_trial(pair, rules, length):
    """The first log of at most this length with a wrong answer, with its kind."""
    for log in strings_up_to(length, "abc"[:pair[0].signs]):
        for kind, machine in zip("AB", pair):
            if machine.has_log(log) and answer_by_search(rules, log) != kind:
                return (kind, log)
    return None


def pairs_met(machine, rules):
    """The number of pairs of a state and a progress to which strings lead."""
    patterns = [pattern for _, block in rules[0] for pattern in block]
    todo = [(state, (0,) * len(patterns)) for state in machine.starts()]
    found = set(todo)
    while todo:
        state, progress = todo.pop()
        for origin, sign, target in machine.edges():
            if origin == state:
                behind = target, tuple(
                    many + (pattern[many:many + 1] == sign) for many, pattern in zip(progress, patterns))
                if behind not in found:
                    found.add(behind)
                    todo.append(behind)
    return len(found)


class RulesFaultTest(ProgramCase):
    def check(self, pair, rules, wanted):
        found = rules_fault(pair, rules)
        self.assertEqual(found, wanted)
        if found is not None:
            self.assertIs(type(found), tuple)

    def test_the_example(self):
        pair = example_pair()
        for rules, fault in (
            (((), "A"), ("B", "ab")), (((), "B"), ("A", "a")), (((("B", ("b",)),), "A"), None),
            (((("B", ("b", "aa")),), "A"), None), (((("A", ("a",)),), "B"), ("B", "ab")),
            (((("B", ("",)),), "A"), ("A", "a")), (((("B", ("b",)), ("A", ("a",))), "B"), None),
            (((("B", ("ba",)),), "A"), ("B", "ab")), (((("B", ("a",)),), "A"), ("A", "a")),
        ):
            self.check(pair, rules, fault)

    def test_random_rules_against_a_trial(self):
        tried = {True: 0, False: 0}
        for signs, length in ((1, 9), (2, 6), (3, 5)):
            for place, pair in enumerate(random_pairs(30, signs, 3, 6)):
                for rules in random_rules(12, signs, 2):
                    with self.subTest((signs, place, rules)):
                        found = rules_fault(pair, rules)
                        if found is None or len(found[1]) <= length:
                            self.assertEqual(found, fault_by_trial(pair, rules, length))
                        else:
                            self.assertIsNone(fault_by_trial(pair, rules, length))
                            self.assertIs(pair["AB".index(found[0])].has_log(found[1]), True)
                            self.assertNotEqual(answer_by_search(rules, found[1]), found[0])
                        tried[found is None] += 1
        self.assertGreater(min(tried.values()), 200)

    def test_the_first_of_all_logs(self):
        # By length, then by alphabet, whichever machine it is of.
        one = machine_of(2, 3, "0b1 0a2 2a1", (0,), (1,))
        two = machine_of(2, 3, "0a1 0b2 2b1", (0,), (1,))
        self.check((one, two), ((), "B"), ("A", "b"))
        self.check((two, one), ((), "B"), ("A", "a"))
        self.check((one, two), ((), "A"), ("B", "a"))
        # "a" is right, "b" is wrong; all of "aa" and "bb" are right.
        self.check((one, two), ((("A", ("aa",)),), "B"), ("A", "b"))
        self.check((one, two), ((("A", ("aa",)), ("B", ("bb", "a")), ("A", ("b",))), "B"), None)
        # A wrong log of two signs for A, one for B: "aa" comes ahead of "bb".
        self.check((one, two), ((("B", ("aa",)), ("A", ("bb",)), ("B", ("a",))), "A"), ("A", "aa"))
        self.check((two, one), ((("A", ("aa",)), ("B", ("bb",)), ("A", ("a",))), "B"), ("B", "aa"))
        self.check((one, two), ((("A", ("aa", "bb")), ("B", ("a",))), "A"), ("B", "bb"))

    def test_a_log_of_both(self):
        both = machine_of(2, 2, "0a1 1b1", (0,), (1,))
        self.check((both, both), ((), "A"), ("B", "a"))
        self.check((both, both), ((), "B"), ("A", "a"))
        self.check((both, both), ((("A", ("b",)),), "B"), ("A", "a"))
        self.check((both, both), ((("B", ("b",)),), "A"), ("B", "a"))
        # "a" is of A alone and right, "ab" is of both: wrong for A if the answer is B.
        one = machine_of(2, 3, "0a1 1b2", (0,), (1, 2))
        two = machine_of(2, 3, "0a1 1b2", (0,), (2,))
        self.check((one, two), ((("B", ("b",)),), "A"), ("A", "ab"))
        self.check((one, two), ((), "A"), ("B", "ab"))
        empty = machine_of(2, 1, "", (0,), (0,))
        self.check((empty, empty), ((), "A"), ("B", ""))
        self.check((empty, empty), ((), "B"), ("A", ""))
        self.check((empty, empty), ((("B", ("",)),), "A"), ("A", ""))

    def test_machines_without_starts_ends_or_edges(self):
        for machine in machines_without_logs():
            for last in "AB":
                self.check((machine, machine), ((), last), None)
                self.check((machine, machine), alternating(last, [("a",), ("",)]), None)
            self.check((machine, example_pair()[1]), ((), "A"), ("B", "ab"))
            self.check((machine, example_pair()[1]), ((), "B"), None)
            self.check((example_pair()[0], machine), ((), "B"), ("A", "a"))
        self.check((machine_of(1, 2, "", (0, 1), (1,)), machine_of(1, 2, "", (0,), (1,))), ((), "B"), ("A", ""))

    def test_machines_with_circles(self):
        # A has an odd number of a, B an even one: wrong only far out.
        pair = machine_of(1, 2, "0a1 1a0", (0,), (1,)), machine_of(1, 2, "0a1 1a0", (0,), (0,))
        rules = alternating("B", [("a" * (11 - place),) for place in range(11)])
        self.check(pair, rules, ("B", "a" * 12))
        self.check(pair, (rules[0][1:], "B"), ("A", "a" * 11))
        for most in range(1, 11):
            rules = alternating("B", [("a" * (most - place),) for place in range(most)])
            self.check(pair, rules, ("BA"[most % 2 == 0], "a" * (most + 1)))
        long = machine_of(3, 6, "0a1 1b2 2c3 3a4 4b5 5c0", (0,), (0,))
        self.check((long, machine_of(3, 1, "", (0,), (0,))), ((("A", ("a",)),), "B"), ("A", ""))
        rules = ((("B", ("c" * 24,)), ("A", ("a",))), "B")
        self.check((long, Machine(3, 1)), rules, ("A", ""))
        long.remove_end(0)
        long.add_end(3)
        self.check((long, Machine(3, 1)), rules, ("A", "abcabc" * 11 + "abcabcabc"))

    def test_behind_edits_and_without_traces(self):
        one, two = example_pair()
        rules = ((("B", ("b", "aa")),), "A")
        before = [look_of(one), look_of(two), rules]
        self.check((one, two), rules, None)
        self.assertEqual([look_of(one), look_of(two), rules], before)
        one.add_edge(1, "b", 1)
        self.check((one, two), rules, ("A", "ab"))
        two.add_end(1)
        self.check((one, two), rules, ("B", "a"))
        two.add_end(0)
        self.check((one, two), rules, ("B", ""))
        two.remove_start(0)
        self.check((one, two), rules, ("A", "ab"))
        one.remove_edge(1, "b", 1)
        self.check((one, two), rules, None)
        one.remove_edge(0, "a", 1)
        self.check((one, two), ((), "B"), None)

    def test_unpaired_comes_first(self):
        for one, two in permutations((1, 2, 3), 2):
            pair = machine_of(one, 1, "0a0", (0,), (0,)), machine_of(two, 1, "0a0", (0,), (0,))
            for rules in (((), "A"), (WIDE, "A")):
                self.raised(Unpaired, rules_fault, pair, rules)


# 10, 15 and 20 progresses: 3000 in all, where all three signs come in any order.
WIDE = (("B", ("a" * 9, "b" * 14, "c" * 19)),)


class ManyProgressesTest(ProgramCase):
    def full(self, *more, starts=(0,), ends=()):
        return machine_of(3, 6, "0a0 0b0 0c0 " + " ".join(more), starts, ends)

    def refused(self, pair, rules):
        self.assertGreater(max(pairs_met(machine, rules) for machine in pair), 3000)
        self.assertEqual(self.raised(LimitExceeded, rules_fault, pair, rules).limit, 3000)

    def test_3000_pairs_are_allowed(self):
        rules = (WIDE, "A")
        for ends in ((), (0,)):
            machine = self.full(ends=ends)
            self.assertEqual(pairs_met(machine, rules), 3000)
            fault = ("A", "a" * 9) if ends else None
            self.assertEqual(rules_fault((machine, Machine(3, 1)), rules), fault)
            self.assertEqual(rules_fault((Machine(3, 1), machine), rules), ("B", "") if ends else None)
            self.assertEqual(rules_fault((machine, machine), rules), ("B", "") if ends else None)

    def test_3001_pairs_are_not(self):
        rules = (WIDE, "A")
        machine = self.full(starts=(0, 1))
        self.assertEqual(pairs_met(machine, rules), 3001)
        self.refused((machine, Machine(3, 1)), rules)
        self.refused((Machine(3, 1), machine), rules)
        self.refused((machine, machine), rules)

    def test_each_machine_counts_by_itself(self):
        # 3000 pairs each, and no end is reached.
        rules = (WIDE, "A")
        one, two = self.full(), machine_of(3, 2, "1a1 1b1 1c1", (1,), ())
        self.assertEqual([pairs_met(one, rules), pairs_met(two, rules)], [3000, 3000])
        self.assertIsNone(rules_fault((one, two), rules))

    def test_whatever_else_is_found(self):
        # A wrong log of no signs at all, in the first or the second machine, and no end behind the many pairs.
        rules = (WIDE, "A")
        wide = self.full("0a1", starts=(0,))
        wrong = machine_of(3, 1, "", (0,), (0,))
        self.assertEqual(rules_fault((Machine(3, 1), wrong), rules), ("B", ""))
        self.refused((wide, wrong), rules)
        self.refused((wrong, wide), rules)
        for pair in ((wide, wrong), (self.full("0a1", ends=(0,)), wrong)):
            self.refused(pair, (WIDE, "A"))
        self.refused((wrong, wide), (WIDE + (("A", ("",)),), "B"))

    def test_pairs_that_no_string_leads_to_do_not_count(self):
        rules = (WIDE, "A")
        apart = self.full("1a0 2b1", "3a4", starts=(0,))
        self.assertEqual(pairs_met(apart, rules), 3000)
        self.assertIsNone(rules_fault((apart, apart), rules))
        no_starts = self.full("0a1", starts=())
        self.assertIsNone(rules_fault((no_starts, no_starts), rules))

    def test_progresses_count_not_what_has_been_read(self):
        # Signs behind the end of a pattern change nothing; the same pattern twice counts once.
        rules = ((("B", ("a" * 9, "b" * 14, "a" * 9, "c" * 19, "c" * 19)),), "A")
        self.assertEqual(pairs_met(self.full(), rules), 3000)
        self.assertIsNone(rules_fault((self.full(), Machine(3, 1)), rules))
        # A pattern that is found later keeps its progress behind the block that fits first.
        rules = ((("B", ("a",)), ("A", ("b" * 24, "c" * 24))), "B")
        self.assertEqual(pairs_met(self.full(), rules), 1250)
        rules = ((("B", ("aaa",)), ("A", ("b" * 24, "c" * 24)), ("B", ("ab",))), "A")
        self.refused((self.full(), Machine(3, 1)), rules)

    def test_more_rules_near_the_limit(self):
        machine, two = machine_of(2, 2, "0a0 0b1 1b0 1a1", (0,), (0,)), Machine(2, 1)
        for many, lengths in (
            (2943, (6, 12, 9)), (2984, (9, 18, 6)), (2988, (5, 21, 6)), (3020, (10, 18, 6)), (3027, (6, 9, 12)),
        ):
            rules = alternating("A", [("ab" * lengths[0], "a" * lengths[1]), ("b" * lengths[2], "bba" * 4)])
            self.assertEqual(pairs_met(machine, rules), many)
            if many > 3000:
                self.refused((machine, two), rules)
                self.refused((two, machine), rules)
            else:
                self.assertEqual(rules_fault((machine, two), rules), fault_by_trial((machine, two), rules, 12))


class InterfaceTest(ProgramCase):
    def test_names_and_places(self):
        functions = {
            "require_rules": ["value", "signs"], "answer_of": ["rules", "log"], "rules_fault": ["pair", "rules"],
        }
        self.check_interface(rules_module, functions)

    def test_arguments_by_name(self):
        rules = ((("B", ("b", "aa")),), "A")
        self.assertIs(require_rules(signs=2, value=rules), rules)
        self.assertIs(require_rules(rules, signs=3), rules)
        self.assertEqual(self.raised(InvalidRules, require_rules, signs=1, value=rules).place, (0, 0))
        self.assertEqual(answer_of(log="ab", rules=rules), ("B", 1))
        self.assertEqual(answer_of(rules, log="a"), ("A", 2))
        self.assertIsNone(rules_fault(rules=rules, pair=example_pair()))
        self.assertEqual(rules_fault(example_pair(), rules=((), "A")), ("B", "ab"))

    def test_examples_of_the_document(self):
        rules = ((("B", ("b", "aa")),), "A")
        self.assertEqual((answer_of(rules, "ab"), answer_of(rules, "a")), (("B", 1), ("A", 2)))
        pair = example_pair()
        found = rules_fault(pair, ((), "A")), rules_fault(pair, ((("B", ("b",)),), "A"))
        self.assertEqual(found, (("B", "ab"), None))


if __name__ == "__main__":
    unittest.main()
