import unittest
from itertools import permutations

from gaprules import made
from gaprules.bases import basis
from gaprules.downsets import Downset
from gaprules.errors import Endless, LimitExceeded, Unpaired
from gaprules.ladders import ladder_or_barrier
from gaprules.machines import Machine
from gaprules.made import fewest_answers, made_rules
from gaprules.rules import answer_of, require_rules, rules_fault
from tests.helpers import (
    ProgramCase, example_pair, in_chain, look_of, machine_of, machines_without_logs, pair_of_46,
    pair_of_46_on_the_way, random_pairs, strings_up_to,
)
from tests.pairs import (
    exchanged, pair_of_11_and_12, pair_of_12_and_13, pair_of_19_and_20, pair_of_20_and_21, pair_of_24_patterns,
    pair_of_25_patterns, pair_of_46_for_b, pair_of_3000, pair_of_3001, pair_of_log_201, pair_of_pattern_24,
    pair_of_pattern_25,
)


def other(kind):
    return "BA"["AB".index(kind)]


class MadeCase(ProgramCase):
    def check_rules(self, pair, last):
        """Check the rules against the definition, and return the number of answers."""
        rules = made_rules(pair, last)
        self.assertIs(require_rules(rules, pair[0].signs), rules)
        blocks, final = rules
        many = len(blocks) + 1
        self.assertEqual((final, many), (last, fewest_answers(pair, last)))
        answers = [answer for answer, _ in blocks] + [final]
        for at, (answer, patterns) in enumerate(blocks):
            self.assertNotEqual(answer, answers[at + 1])
            self.assertEqual(patterns, basis(pair, other(answer), at + 1))
        self.assertIsNone(rules_fault(pair, rules))
        return many

    def check_fewest(self, pair, last, many):
        """No fewer answers do: a chain of one log less begins with the other kind; but none of so many."""
        self.assertIs(in_chain(pair, other(last), many - 1, ""), True)
        self.assertIs(in_chain(pair, other(last), many, ""), False)


class MadeRulesTest(MadeCase):
    def test_the_example(self):
        pair = example_pair()
        self.assertEqual(made_rules(pair, "A"), ((("B", ("b", "aa")),), "A"))
        self.assertEqual(made_rules(pair, "B"), ((("B", ("b", "aa")), ("A", ("",))), "B"))
        self.assertEqual((fewest_answers(pair, "A"), fewest_answers(pair, "B")), (2, 3))
        for last in "AB":
            self.check_fewest(pair, last, self.check_rules(pair, last))

    def test_small_pairs(self):
        numbers = set()
        for signs in (1, 2, 3):
            for place, pair in enumerate(random_pairs(50, signs, 3, 6) + random_pairs(80, signs, 4, 6)):
                for last in "AB":
                    with self.subTest((signs, place, last)):
                        if ladder_or_barrier(pair)[0] == "ladder":
                            self.assertIsNone(fewest_answers(pair, last))
                            self.raised(Endless, made_rules, pair, last)
                        else:
                            many = self.check_rules(pair, last)
                            self.check_fewest(pair, last, many)
                            numbers.add(many)
        self.assertLessEqual({1, 2, 3}, numbers)

    def test_larger_pairs(self):
        tried = 0
        for signs in (1, 2, 3):
            for place, pair in enumerate(random_pairs(80, signs, 6, 9)):
                for last in "AB":
                    with self.subTest((signs, place, last)):
                        try:
                            tried += self.check_rules(pair, last) > 2
                        except (Endless, LimitExceeded):
                            pass
        self.assertGreater(tried, 5)

    def test_the_rules_answer_for_the_logs(self):
        for pair in random_pairs(30, 2, 4, 7):
            if ladder_or_barrier(pair)[0] == "barrier":
                for last in "AB":
                    rules = made_rules(pair, last)
                    for log in strings_up_to(6, "ab"):
                        for kind, machine in zip("AB", pair):
                            if machine.has_log(log):
                                self.assertEqual(answer_of(rules, log)[0], kind)

    def test_machines_without_logs(self):
        full = machine_of(2, 1, "0a0 0b0", (0,), (0,))
        for machine in machines_without_logs():
            self.assertEqual(made_rules((full, machine), "A"), ((), "A"))
            self.assertEqual(made_rules((full, machine), "B"), ((("A", ("",)),), "B"))
            self.assertEqual(made_rules((machine, full), "B"), ((), "B"))
            self.assertEqual(made_rules((machine, full), "A"), ((("B", ("",)),), "A"))
            for last in "AB":
                self.assertEqual(made_rules((machine, machine), last), ((), last))
                self.assertEqual(fewest_answers((machine, machine), last), 1)

    def test_ranked_machines(self):
        # "a" and "aaa" for A, "", "aa" and "aaaa" for B.
        line = "0a1 1a2 2a3 3a4"
        pair = machine_of(1, 5, line, (0,), (1, 3)), machine_of(1, 5, line, (0,), (0, 2, 4))
        blocks = (("B", ("aaaa",)), ("A", ("aaa",)), ("B", ("aa",)), ("A", ("a",)), ("B", ("",)))
        self.assertEqual(made_rules(pair, "B"), (blocks[:-1], "B"))
        self.assertEqual(made_rules(pair, "A"), (blocks, "A"))
        self.assertEqual([fewest_answers(pair, last) for last in "AB"], [6, 5])

    def test_both_last_answers_differ_by_one_at_most(self):
        for pair in random_pairs(60, 2, 5, 8):
            if ladder_or_barrier(pair)[0] == "barrier":
                one, two = [fewest_answers(pair, last) for last in "AB"]
                self.assertLessEqual(abs(one - two), 1)

    def test_endless_where_there_is_a_ladder(self):
        machine = machine_of(2, 3, "0a1 1b2", (0,), (2,))
        for pair in ((machine, machine), pair_of_46()):
            for last in "AB":
                self.assertIsNone(fewest_answers(pair, last))
                self.raised(Endless, made_rules, pair, last)

    def test_behind_edits(self):
        one, two = example_pair()
        pair = one, two
        one.add_edge(1, "b", 1)
        self.assertIsNone(fewest_answers(pair, "A"))
        self.raised(Endless, made_rules, pair, "A")
        one.remove_edge(1, "b", 1)
        self.assertEqual(made_rules(pair, "A"), ((("B", ("b", "aa")),), "A"))
        two.add_start(2)
        self.assertEqual([fewest_answers(pair, last) for last in "AB"], [4, 3])
        self.assertEqual(made_rules(pair, "B"), ((("B", ("b", "aa")), ("A", ("a", "b"))), "B"))
        two.remove_end(2)
        self.assertEqual(made_rules(pair, "A"), ((), "A"))
        two.add_end(1)
        self.raised(Endless, made_rules, pair, "B")
        one.remove_start(0)
        self.assertEqual(made_rules(pair, "B"), ((), "B"))

    def test_machines_are_not_modified(self):
        for pair in random_pairs(20, 2, 5, 9) + [pair_of_46(), pair_of_46_for_b(), pair_of_25_patterns()]:
            before = [look_of(machine) for machine in pair]
            for call in (fewest_answers, made_rules):
                for last in "AB":
                    try:
                        call(pair, last)
                    except (Endless, LimitExceeded):
                        pass
            self.assertEqual([look_of(machine) for machine in pair], before)


class LimitTest(MadeCase):
    def refused(self, limit, call, *arguments):
        self.assertEqual(self.raised(LimitExceeded, call, *arguments).limit, limit)

    def test_unpaired_comes_first(self):
        for one, two in permutations((1, 2, 3), 2):
            for machines in (Machine(one, 1), Machine(two, 1)), (
                machine_of(one, 1, "0a0", (0,), (0,)), machine_of(two, 1, "0a0", (0,), (0,)),
            ):
                for call in (fewest_answers, made_rules):
                    for last in "AB":
                        self.raised(Unpaired, call, machines, last)
        self.raised(Unpaired, made_rules, pair_of_46(3), "B")

    def test_45_rests(self):
        self.refused(45, Downset, pair_of_46_for_b(), "B", 2)
        for call in (fewest_answers, made_rules):
            # With the last answer A chains begin with kind B.
            self.refused(45, call, pair_of_46_for_b(), "A")
            self.refused(45, call, exchanged(pair_of_46_for_b()), "B")
            for last in "AB":
                self.refused(45, call, pair_of_46_on_the_way(), last)
        self.assertEqual(fewest_answers(pair_of_46_for_b(), "B"), 2)
        self.assertEqual(self.check_rules(pair_of_46_for_b(), "B"), 2)
        self.assertEqual(self.check_rules(exchanged(pair_of_46_for_b()), "A"), 2)

    def test_twelve_answers(self):
        pair = pair_of_11_and_12()
        self.assertEqual(fewest_answers(pair, "B"), 12)
        self.assertEqual(self.check_rules(pair, "B"), 12)
        self.assertEqual(self.check_rules(exchanged(pair), "A"), 12)
        for call in (fewest_answers, made_rules):
            self.refused(12, call, pair, "A")
            self.refused(12, call, exchanged(pair), "B")
            for other_pair in (pair_of_12_and_13(), pair_of_19_and_20(), pair_of_20_and_21()):
                for last in "AB":
                    self.refused(12, call, other_pair, last)

    def test_patterns_of_24_signs(self):
        rules = made_rules(pair_of_pattern_24(), "A")
        self.assertEqual(max(len(pattern) for _, patterns in rules[0] for pattern in patterns), 24)
        self.check_rules(pair_of_pattern_24(), "A")
        pair = pair_of_pattern_25()
        many = fewest_answers(pair, "A")
        bases = [basis(pair, "AB"[(many - depth + 1) % 2], depth) for depth in range(1, many)]
        self.assertEqual(max(len(pattern) for patterns in bases for pattern in patterns), 25)
        self.assertLessEqual(max(len(patterns) for patterns in bases), 24)
        self.refused(24, made_rules, pair, "A")

    def test_24_patterns(self):
        rules = made_rules(pair_of_24_patterns(), "A")
        self.assertEqual(max(len(patterns) for _, patterns in rules[0]), 24)
        self.check_rules(pair_of_24_patterns(), "A")
        pair = pair_of_25_patterns()
        many = fewest_answers(pair, "A")
        bases = [basis(pair, "AB"[(many - depth + 1) % 2], depth) for depth in range(1, many)]
        self.assertEqual(max(len(patterns) for patterns in bases), 25)
        self.assertLessEqual(max(len(pattern) for patterns in bases for pattern in patterns), 24)
        self.refused(24, made_rules, pair, "A")

    def test_many_more_patterns(self):
        # 32, 81, 243, and more than basis gives: B has the log "aaaaaa" alone.
        two = machine_of(2, 6, "0a1 1a2 2a3 3a4 4a5", (0,), (5,))
        three = machine_of(3, 6, "0a1 1a2 2a3 3a4 4a5", (0,), (5,))
        for signs, most in ((2, 4), (3, 3), (3, 4)):
            edges = [(place, sign, place + 1) for place in range(most) for sign in "abc"[:signs]]
            one = machine_of(signs, 6, edges, (0,), (most,))
            pair = one, two if signs == 2 else three
            self.assertEqual(len(basis(pair, "A", 1)), signs ** (most + 1))
            self.assertEqual(fewest_answers(pair, "A"), 2)
            self.refused(24, made_rules, pair, "A")
        edges = [(place, sign, place + 1) for place in range(5) for sign in "abc"][:14]
        long = machine_of(3, 6, "0a1 1a2 2a3 3a4 4c5 5c5", (0,), (5,))
        wide = machine_of(3, 6, edges, (0,), (5,)), long
        self.refused(243, basis, wide, "A", 1)
        self.assertEqual(fewest_answers(wide, "A"), 2)
        self.refused(24, made_rules, wide, "A")

    def test_fewest_answers_does_not_ask_for_patterns(self):
        for pair in (pair_of_pattern_25(), pair_of_25_patterns()):
            for last in "AB":
                self.assertIs(type(fewest_answers(pair, last)), int)

    def test_3000_progresses_are_no_limit_here(self):
        rules = made_rules(pair_of_3001(), "A")
        self.refused(3000, rules_fault, pair_of_3001(), rules)
        self.assertEqual(len(rules[0]) + 1, fewest_answers(pair_of_3001(), "A"))
        self.check_rules(pair_of_3000(), "A")

    def test_long_logs_are_no_limit_here(self):
        for last in "AB":
            self.check_rules(pair_of_log_201(), last)


class InterfaceTest(MadeCase):
    def test_names_and_places(self):
        self.check_interface(made, {"fewest_answers": ["pair", "last"], "made_rules": ["pair", "last"]})

    def test_arguments_by_name(self):
        pair = example_pair()
        self.assertEqual(fewest_answers(last="B", pair=pair), 3)
        self.assertEqual(fewest_answers(pair, last="A"), 2)
        self.assertEqual(made_rules(last="A", pair=pair), ((("B", ("b", "aa")),), "A"))
        self.assertEqual(len(made_rules(pair, last="B")[0]), 2)
        self.raised(Unpaired, made_rules, last="A", pair=pair_of_46(3))
        self.raised(Endless, made_rules, last="A", pair=pair_of_46())

    def test_examples_of_the_document(self):
        pair = example_pair()
        self.assertEqual(made_rules(pair, "A"), ((("B", ("b", "aa")),), "A"))
        self.assertEqual((fewest_answers(pair, "A"), fewest_answers(pair, "B")), (2, 3))


if __name__ == "__main__":
    unittest.main()
