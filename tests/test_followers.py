import unittest
from itertools import permutations

from gaprules import followers
from gaprules.errors import InvalidRules, LimitExceeded, NotALog, Unpaired
from gaprules.followers import KindFollower, RuleFollower
from gaprules.machines import Machine
from gaprules.rules import answer_of
from gaprules.signs import progress_of
from tests.helpers import (
    ProgramCase, example_pair, look_of, machine_of, machines_without_logs, pair_of_46, random_pairs, strings_up_to,
)
from tests.rulesets import alternating, random_rules
from tests.test_rules import NOT_TUPLES, WIDE, WRONG_ANSWERS, WRONG_PATTERNS

WRONG_SIGNS = ("", "d", "ab", "aa", "A", " ", "a ", "\n", 0, 1, True, False, None, ("a",), (), ["a"], {"a": 1}, {})


def read_all(follower, log):
    for sign in log:
        follower.read(sign)
    return follower


def progresses_met(rules, signs):
    """The number of progresses to which strings over the signs lead."""
    patterns = [pattern for _, block in rules[0] for pattern in block]
    todo = [(0,) * len(patterns)]
    found = set(todo)
    while todo:
        progress = todo.pop()
        for sign in "abc"[:signs]:
            behind = tuple(many + (pattern[many:many + 1] == sign) for many, pattern in zip(progress, patterns))
            if behind not in found:
                found.add(behind)
                todo.append(behind)
    return len(found)


def changes_along(rules, log, string):
    """The number of steps of the string, read behind the log, at which the answer changes."""
    answers = [answer_of(rules, log + string[:many])[0] for many in range(len(string) + 1)]
    return sum(one != two for one, two in zip(answers, answers[1:]))


def most_by_trial(rules, log, signs, length):
    """The most changes that a continuation of at most this length brings."""
    return max(changes_along(rules, log, string) for string in strings_up_to(length, "abc"[:signs]))


def most_by_search(rules, log, signs):
    """The most changes that any continuation brings: only signs that some pattern waits for matter."""
    patterns = [pattern for _, block in rules[0] for pattern in block]
    known = {}

    def most(read):
        key = tuple(progress_of(read, pattern) for pattern in patterns)
        if key not in known:
            known[key] = 0
            for sign in "abc"[:signs]:
                if any(progress_of(read + sign, pattern) > many for many, pattern in zip(key, patterns)):
                    known[key] = max(known[key], changes_along(rules, read, sign) + most(read + sign))
        return known[key]

    return most(log)


# Rules that lead to 3000 and to 3001 progresses, found by a search.
RULES_OF_3000 = alternating("A", [("bccabaabcccb", "abbccbbabcaba"), ("acaaaaacccbaa", "babcbaa")])
RULES_OF_3001 = alternating("A", [("abababacaab", "accaacaaca"), ("cbacccbbccaab", "cabbcabcc")])


class RuleFollowerTest(ProgramCase):
    def check(self, follower, rules, log, signs):
        """Compare all answers but the number of changes with what the rules say of the log."""
        answer, number = answer_of(rules, log)
        self.assertEqual((follower.answer(), follower.answer_number()), (answer, number), log)
        self.assertEqual((type(follower.answer()), type(follower.answer_number())), (str, int))
        found = follower.most_changes()
        self.assertEqual((type(found), len(found), type(found[0]), type(found[1])), (tuple, 2, int, str))
        count, string = found
        self.assertLessEqual(set(string), set("abc"[:signs]))
        self.assertEqual(changes_along(rules, log, string), count, (log, string))
        self.assertIs(follower.is_settled(), count == 0)
        return count

    def test_the_example(self):
        rules = ((("B", ("b", "aa")),), "A")
        follower = RuleFollower(rules, 2)
        for sign, answer, number, count in (("a", "A", 2, 1), ("a", "B", 1, 0), ("b", "B", 1, 0), ("a", "B", 1, 0)):
            self.assertIsNone(follower.read(sign))
            self.assertEqual((follower.answer(), follower.answer_number()), (answer, number))
            self.assertEqual((follower.most_changes()[0], follower.is_settled()), (count, count == 0))

    def test_at_every_beginning_of_many_logs(self):
        counts = set()
        for signs in (1, 2, 3):
            for place, rules in enumerate(random_rules(25, signs, 4)):
                for log in strings_up_to(5 if signs < 3 else 3, "abc"[:signs])[::3]:
                    with self.subTest((signs, place, log)):
                        follower = RuleFollower(rules, signs)
                        numbers = []
                        for many in range(len(log) + 1):
                            counts.add(self.check(follower, rules, log[:many], signs))
                            numbers.append(follower.answer_number())
                            if many < len(log):
                                follower.read(log[many])
                        self.assertEqual(numbers, sorted(numbers, reverse=True))
        self.assertLessEqual({0, 1, 2, 3}, counts)

    def test_most_changes_against_a_trial(self):
        for signs, length in ((1, 9), (2, 7), (3, 4)):
            for place, rules in enumerate(random_rules(30, signs, 4)):
                for log in strings_up_to(2, "abc"[:signs]):
                    with self.subTest((signs, place, log)):
                        follower = read_all(RuleFollower(rules, signs), log)
                        count = self.check(follower, rules, log, signs)
                        self.assertEqual(count, most_by_search(rules, log, signs))
                        self.assertGreaterEqual(count, most_by_trial(rules, log, signs, length if log == "" else 3))

    def test_known_numbers_of_changes(self):
        for signs, rules, log, count in (
            (1, ((), "A"), "", 0), (1, ((("B", ("",)),), "A"), "", 0), (1, ((("B", ("a",)),), "A"), "", 1),
            # Blocks that are passed over: a step of two numbers is no change.
            (1, ((("A", ("a",)), ("B", ("a",))), "A"), "", 0), (2, ((("A", ("a",)), ("B", ("b",))), "A"), "", 2),
            (2, ((("A", ("a",)), ("B", ("b",))), "A"), "b", 1), (2, ((("A", ("a",)), ("B", ("b",))), "A"), "a", 0),
            # Changes that only signs beyond the first ones can bring.
            (2, ((("B", ("c",)),), "A"), None, None), (3, ((("B", ("c",)),), "A"), "abab", 1),
            (1, alternating("A", [("a" * (11 - place),) for place in range(11)]), "", 11),
            (1, alternating("A", [("a" * (11 - place),) for place in range(11)]), "aaaa", 7),
            (2, alternating("A", [("a" * (11 - place),) for place in range(11)]), "babb", 10),
            (2, alternating("B", [("ab" * (11 - place),) for place in range(11)]), "", 11),
            (2, alternating("A", [("a" * place + "b",) for place in range(11)]), "", 1),
            (2, alternating("A", [("b" + "a" * (22 - 2 * place), "a" * 24) for place in range(11)]), "", 11),
        ):
            if count is None:
                self.assertEqual(self.raised(InvalidRules, RuleFollower, rules, signs).place, (0, 0))
            else:
                follower = read_all(RuleFollower(rules, signs), log)
                self.assertEqual(self.check(follower, rules, log, signs), count)

    def test_the_string_changes_the_answer_just_so_often(self):
        rules = ((("B", ("ba", "c")), ("A", ("ab",)), ("B", ("bb", "aa"))), "A")
        follower = RuleFollower(rules, 3)
        count, string = follower.most_changes()
        answers = [follower.answer()]
        for sign in string:
            follower.read(sign)
            answers.append(follower.answer())
        self.assertEqual(sum(one != two for one, two in zip(answers, answers[1:])), count)
        self.assertIs(follower.is_settled(), True)

    def test_wrong_signs(self):
        for signs in (1, 2, 3):
            rules = ((("B", ("aa",)),), "A")
            follower = read_all(RuleFollower(rules, signs), "a")
            for wrong in WRONG_SIGNS + tuple("abc"[signs:]):
                error = self.raised(NotALog, follower.read, wrong)
                self.assertEqual(repr(error.value), repr(wrong))
                self.assertEqual(self.check(follower, rules, "a", signs), 1)
            follower.read("a")
            self.assertEqual(follower.answer(), "B")

    def test_questions_change_nothing(self):
        rules = ((("A", ("bb",)), ("B", ("a",))), "A")
        follower = read_all(RuleFollower(rules, 2), "b")
        for _ in range(3):
            self.assertEqual(self.check(follower, rules, "b", 2), 2)

    def test_two_followers_of_the_same_rules(self):
        rules = ((("A", ("bb",)), ("B", ("a",))), "A")
        one, two = RuleFollower(rules, 2), RuleFollower(rules, 2)
        one.read("a")
        self.check(two, rules, "", 2)
        two.read("b")
        self.check(one, rules, "a", 2)
        one.read("b")
        two.read("b")
        self.assertEqual((one.answer(), two.answer(), rules), ("B", "A", ((("A", ("bb",)), ("B", ("a",))), "A")))
        self.check(one, rules, "ab", 2)
        self.check(two, rules, "bb", 2)

    def test_invalid_rules(self):
        for wrong in NOT_TUPLES + ((), ("A",), ((), "C"), ((), ()), ((("B", ("a",)),), "B")):
            self.assertEqual(self.raised(InvalidRules, RuleFollower, wrong, 2).place, ())
        for wrong in WRONG_ANSWERS:
            self.assertEqual(self.raised(InvalidRules, RuleFollower, ((), wrong), 2).place, ())
            self.assertEqual(self.raised(InvalidRules, RuleFollower, (((wrong, ("a",)),), "A"), 2).place, (0,))
        for wrong in WRONG_PATTERNS + ("c",):
            self.assertEqual(self.raised(InvalidRules, RuleFollower, ((("B", ("a", wrong)),), "A"), 2).place, (0, 1))
        self.assertEqual(self.raised(InvalidRules, RuleFollower, ((("B", ("a",)), ("B", ("b",))), "A"), 2).place, (1,))
        self.assertEqual(self.raised(InvalidRules, RuleFollower, alternating("A", [("a",)] * 12), 1).place, ())

    def test_3000_progresses_are_allowed(self):
        rules = (WIDE, "A")
        self.assertEqual(progresses_met(rules, 3), 3000)
        follower = RuleFollower(rules, 3)
        self.assertEqual(self.check(follower, rules, "", 3), 1)
        read_all(follower, "a" * 9)
        self.assertEqual((follower.answer(), follower.answer_number(), follower.is_settled()), ("B", 1, True))

    def test_3001_progresses_are_not(self):
        for rules, many in (
            ((WIDE + (("A", ("",)),), "B"), 3000), (RULES_OF_3000, 3000), (RULES_OF_3001, 3001),
            (alternating("A", [("a" * 10, "b" * 12, "c" * 20)]), 3003),
            (alternating("A", [("a" * 24,), ("b" * 24,), ("c" * 24,)]), 15625),
        ):
            self.assertEqual(progresses_met(rules, 3), many)
            if many > 3000:
                self.assertEqual(self.raised(LimitExceeded, RuleFollower, rules, 3).limit, 3000)
            else:
                self.check(RuleFollower(rules, 3), rules, "", 3)

    def test_progresses_over_all_the_signs(self):
        # Whatever any machine's logs are: strings over the signs count.
        rules = alternating("A", [("a" * 24, "b" * 24), ("ab" * 12, "ba" * 12)])
        self.assertGreater(progresses_met(rules, 2), 3000)
        self.raised(LimitExceeded, RuleFollower, rules, 2)
        rules = alternating("A", [("a" * 24,) * 24] * 11)
        self.assertEqual(progresses_met(rules, 1), 25)
        self.assertEqual(RuleFollower(rules, 3).most_changes()[0], 1)

    def test_invalid_rules_come_ahead_of_the_limit(self):
        rules = (WIDE + (("A", ("b" * 24,)), ("B", ("d",))), "A")
        self.assertEqual(self.raised(InvalidRules, RuleFollower, rules, 3).place, (2, 0))


class KindFollowerTest(ProgramCase):
    def check(self, follower, pair, log):
        """Compare all answers with those of the machines."""
        is_now = tuple(kind for kind, machine in zip("AB", pair) if machine.has_log(log))
        can_become = tuple(
            kind for kind, machine in zip("AB", pair)
            if any(machine.has_log(log + more) for more in strings_up_to(machine.states - 1, "abc"[:machine.signs]))
        )
        self.assertEqual(follower.is_now(), is_now, log)
        self.assertEqual(follower.can_become(), can_become, log)
        self.assertIs(follower.is_settled(), len(can_become) < 2)
        return can_become

    def test_the_example(self):
        pair = example_pair()
        follower = KindFollower(pair)
        self.assertEqual((follower.is_now(), follower.can_become(), follower.is_settled()), ((), ("A", "B"), False))
        self.assertIsNone(follower.read("a"))
        self.assertEqual((follower.is_now(), follower.can_become(), follower.is_settled()), (("A",), ("A", "B"), False))
        follower.read("b")
        self.assertEqual((follower.is_now(), follower.can_become(), follower.is_settled()), (("B",), ("B",), True))
        follower.read("b")
        self.assertEqual((follower.is_now(), follower.can_become(), follower.is_settled()), ((), (), True))
        follower.read("a")
        self.assertEqual((follower.is_now(), follower.can_become(), follower.is_settled()), ((), (), True))

    def test_at_every_beginning_of_many_logs(self):
        found = set()
        for signs, length in ((1, 6), (2, 4), (3, 3)):
            for place, pair in enumerate(random_pairs(25, signs, 4, 7)):
                for log in strings_up_to(length, "abc"[:signs])[::2]:
                    with self.subTest((signs, place, log)):
                        follower = KindFollower(pair)
                        for many in range(len(log) + 1):
                            found.add(self.check(follower, pair, log[:many]))
                            if many < len(log):
                                follower.read(log[many])
        self.assertEqual(found, {(), ("A",), ("B",), ("A", "B")})

    def test_the_empty_continuation_counts(self):
        machine = machine_of(1, 1, "", (0,), (0,))
        follower = KindFollower((machine, machine))
        self.assertEqual((follower.is_now(), follower.can_become(), follower.is_settled()), (("A", "B"), ("A", "B"), False))
        follower.read("a")
        self.assertEqual((follower.is_now(), follower.can_become(), follower.is_settled()), ((), (), True))

    def test_machines_without_logs(self):
        full = machine_of(2, 1, "0a0 0b0", (0,), (0,))
        for machine in machines_without_logs():
            for pair in ((machine, full), (full, machine), (machine, machine)):
                follower = KindFollower(pair)
                for many in range(4):
                    self.check(follower, pair, "abab"[:many])
                    follower.read("abab"[many])

    def test_wrong_signs(self):
        for signs in (1, 2, 3):
            machine = machine_of(signs, 2, "0a1", (0,), (1,))
            pair = machine, machine
            follower = read_all(KindFollower(pair), "a")
            for wrong in WRONG_SIGNS + tuple("abc"[signs:]):
                error = self.raised(NotALog, follower.read, wrong)
                self.assertEqual(repr(error.value), repr(wrong))
                self.check(follower, pair, "a")

    def test_edits_behind_the_making_change_nothing(self):
        for early in (True, False):
            one, two = example_pair()
            before = example_pair()
            follower = KindFollower((one, two))
            if not early:
                self.check(follower, before, "")
            one.add_edge(1, "b", 1)
            one.add_end(0)
            two.remove_edge(1, "b", 2)
            two.remove_start(0)
            two.add_start(1)
            for many in range(3):
                self.check(follower, before, "ab"[:many])
                if many < 2:
                    follower.read("ab"[many])
            one.remove_start(0)
            two.remove_end(2)
            two.add_end(0)
            self.check(follower, before, "ab")
            later = KindFollower((one, two))
            self.check(later, (one, two), "")

    def test_machines_are_not_modified(self):
        for pair in random_pairs(10, 2, 4, 7):
            before = [look_of(machine) for machine in pair]
            follower = KindFollower(pair)
            for sign in "abba":
                follower.is_now(), follower.can_become(), follower.is_settled()
                follower.read(sign)
            self.assertEqual([look_of(machine) for machine in pair], before)

    def test_two_followers_of_one_pair(self):
        pair = example_pair()
        one, two = KindFollower(pair), KindFollower(pair)
        one.read("a")
        self.check(two, pair, "")
        two.read("b")
        self.check(one, pair, "a")
        self.check(two, pair, "b")
        same = KindFollower((pair[0], pair[0]))
        same.read("a")
        self.assertEqual(same.is_now(), ("A", "B"))

    def test_unpaired(self):
        for one, two in permutations((1, 2, 3), 2):
            self.raised(Unpaired, KindFollower, (Machine(one, 1), Machine(two, 1)))
        self.raised(Unpaired, KindFollower, pair_of_46(3))


class InterfaceTest(ProgramCase):
    def test_names_and_places(self):
        rule_methods = {
            "__init__": ["rules", "signs"], "read": ["sign"], "answer": [], "answer_number": [], "most_changes": [],
            "is_settled": [],
        }
        kind_methods = {"__init__": ["pair"], "read": ["sign"], "is_now": [], "can_become": [], "is_settled": []}
        classes = {"RuleFollower": ["rules", "signs"], "KindFollower": ["pair"]}
        self.check_interface(
            followers, classes, [("RuleFollower", rule_methods), ("KindFollower", kind_methods)])

    def test_arguments_by_name(self):
        follower = RuleFollower(signs=2, rules=((("B", ("b",)),), "A"))
        follower.read(sign="b")
        self.assertEqual(follower.answer(), "B")
        self.assertEqual(RuleFollower(((), "A"), signs=1).answer_number(), 1)
        self.raised(InvalidRules, RuleFollower, signs=1, rules=((("B", ("b",)),), "A"))
        self.raised(NotALog, follower.read, sign="c")
        follower = KindFollower(pair=example_pair())
        follower.read(sign="a")
        self.assertEqual(follower.is_now(), ("A",))

    def test_examples_of_the_document(self):
        follower = RuleFollower(((("B", ("b", "aa")),), "A"), 2)
        follower.read("a")
        self.assertEqual((follower.answer(), follower.answer_number(), follower.most_changes()[0]), ("A", 2, 1))
        follower = KindFollower(example_pair())
        follower.read("a")
        self.assertEqual((follower.is_now(), follower.can_become(), follower.is_settled()), (("A",), ("A", "B"), False))


if __name__ == "__main__":
    unittest.main()
