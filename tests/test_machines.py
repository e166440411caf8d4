import doctest
import inspect
import os
import unittest

from gaprules import machines
from gaprules.errors import EdgeExists, LimitExceeded, NotALog, Unpaired, UnknownEdge, UnknownState
from gaprules.machines import Machine, machine_of_kind, other_kind, require_pair
from tests.helpers import ProgramCase, look_of, machine_of, strings_up_to

NO_INTEGERS = (True, False, None, "1", "", (), (1,), [], [1], {}, {1: 1})


def path_ends(edges, starts, log):
    """The states to which the log leads, by trying out all paths one by one."""
    paths = [(state,) for state in starts]
    for sign in log:
        paths = [path + (target,) for path in paths for origin, letter, target in edges
                 if (origin, letter) == (path[-1], sign)]
    return tuple(sorted({path[-1] for path in paths}))


def full_machine():
    """A machine with fourteen edges."""
    edges = [(state, sign, (state + 1) % 5) for state in range(5) for sign in "abc"][:14]
    return machine_of(3, 6, edges, (0,), (4,))


class MachineCase(ProgramCase):
    def check_answers(self, machine, length=4):
        """Compare all answers about logs with those of a search over paths."""
        edges, starts, ends = machine.edges(), machine.starts(), machine.ends()
        first = None
        for log in strings_up_to(length, "abc"[:machine.signs]):
            states = path_ends(edges, starts, log)
            self.assertEqual(machine.states_after(log), states, log)
            self.assertIs(machine.has_log(log), any(state in ends for state in states), log)
            if first is None and any(state in ends for state in states):
                first = log
        if first is not None or length >= machine.states - 1:
            self.assertEqual(machine.first_log(), first)


class CreationTest(MachineCase):
    def test_all_sizes(self):
        for signs in (1, 2, 3):
            for states in range(1, 7):
                machine = Machine(signs, states)
                self.assertEqual((machine.signs, machine.states), (signs, states))
                self.assertEqual((machine.edges(), machine.starts(), machine.ends()), ((), (), ()))

    def test_numbers_out_of_range(self):
        for signs in (0, -1, 4, 100, 10 ** 29, -(10 ** 29)):
            self.assertEqual(self.raised(LimitExceeded, Machine, signs, 2).limit, 3)
        for states in (0, -1, 7, 100, 10 ** 29, -(10 ** 29)):
            self.assertEqual(self.raised(LimitExceeded, Machine, 2, states).limit, 6)

    def test_arguments_that_are_no_integers(self):
        for value in NO_INTEGERS:
            with self.subTest(value):
                self.assertEqual(self.raised(LimitExceeded, Machine, value, 2).limit, 3)
                self.assertEqual(self.raised(LimitExceeded, Machine, 2, value).limit, 6)

    def test_signs_come_first(self):
        for signs in (0, 4, True, None, "a"):
            for states in (0, 7, True, None, "a", 3):
                self.assertEqual(self.raised(LimitExceeded, Machine, signs, states).limit, 3)

    def test_arguments_by_name(self):
        machine = Machine(states=5, signs=1)
        self.assertEqual((machine.signs, machine.states), (1, 5))
        machine = Machine(2, states=4)
        self.assertEqual((machine.signs, machine.states), (2, 4))
        self.assertEqual(self.raised(LimitExceeded, Machine, states=7, signs=4).limit, 3)
        self.assertEqual(self.raised(LimitExceeded, Machine, states=7, signs=3).limit, 6)

    def test_listed_methods_stand_in_the_class_itself(self):
        listed = {
            "add_edge": ["origin", "sign", "target"], "remove_edge": ["origin", "sign", "target"],
            "add_start": ["state"], "add_end": ["state"], "remove_start": ["state"], "remove_end": ["state"],
            "edges": [], "starts": [], "ends": [], "twin": [], "states_after": ["log"], "has_log": ["log"],
            "first_log": [],
        }
        for name, arguments in listed.items():
            self.assertIn(name, vars(Machine))
            self.assertEqual(list(inspect.signature(getattr(Machine, name)).parameters)[1:], arguments)


class EdgeTest(MachineCase):
    def test_added_edges_are_there_in_order(self):
        machine = Machine(3, 3)
        edges = [(2, "a", 0), (0, "c", 0), (0, "a", 2), (1, "b", 1), (0, "a", 0), (0, "b", 1)]
        for many, edge in enumerate(edges, start=1):
            self.assertIsNone(machine.add_edge(*edge))
            self.assertEqual(machine.edges(), tuple(sorted(edges[:many])))
        self.assertIs(type(machine.edges()), tuple)
        self.assertIs(type(machine.edges()[0]), tuple)

    def test_unknown_states(self):
        machine = machine_of(2, 3, [(0, "a", 1)], (0,), (1,))
        before = look_of(machine)
        for state in (-1, 3, 6, 10 ** 29) + NO_INTEGERS:
            with self.subTest(state):
                self.assertIs(self.raised(UnknownState, machine.add_edge, state, "a", 1).state, state)
                self.assertIs(self.raised(UnknownState, machine.add_edge, 1, "a", state).state, state)
        self.assertEqual(look_of(machine), before)

    def test_wrong_signs(self):
        for signs in (1, 2, 3):
            machine = machine_of(signs, 2, [(0, "a", 1)], (0,), (1,))
            before = look_of(machine)
            wrong = ["abc"[signs:signs + 1] or "d", "", "aa", "ab", "abc", "A", " ", "d", "a "]
            for sign in wrong + [0, 1, True, None, (), ("a",), [], ["a"], {}, {"a": 1}]:
                with self.subTest((signs, sign)):
                    self.assertIs(self.raised(NotALog, machine.add_edge, 0, sign, 1).value, sign)
            self.assertEqual(look_of(machine), before)

    def test_edge_that_is_there(self):
        machine = machine_of(2, 3, [(0, "a", 1)], (0,), (1,))
        before = look_of(machine)
        self.assertEqual(self.raised(EdgeExists, machine.add_edge, 0, "a", 1).edge, (0, "a", 1))
        self.assertEqual(look_of(machine), before)
        machine.add_edge(1, "a", 0)
        machine.add_edge(0, "b", 1)
        machine.add_edge(0, "a", 0)
        self.assertEqual(len(machine.edges()), 4)

    def test_fourteen_edges_and_not_fifteen(self):
        machine = full_machine()
        self.assertEqual(len(machine.edges()), 14)
        before = look_of(machine)
        self.assertEqual(self.raised(LimitExceeded, machine.add_edge, 5, "a", 5).limit, 14)
        self.assertEqual(look_of(machine), before)

    def test_removals_make_room(self):
        machine = full_machine()
        gone = machine.edges()[3]
        self.assertIsNone(machine.remove_edge(*gone))
        self.assertEqual(len(machine.edges()), 13)
        self.assertNotIn(gone, machine.edges())
        machine.add_edge(5, "a", 5)
        self.assertEqual(len(machine.edges()), 14)
        self.raised(LimitExceeded, machine.add_edge, *gone)
        machine.remove_edge(5, "a", 5)
        machine.add_edge(*gone)
        self.assertEqual(look_of(machine), look_of(full_machine()))

    def test_errors_in_their_order(self):
        machine = full_machine()
        there = machine.edges()[0]
        self.assertEqual(self.raised(UnknownState, machine.add_edge, 6, "d", 7).state, 6)
        self.assertEqual(self.raised(UnknownState, machine.add_edge, 0, "d", 7).state, 7)
        self.assertEqual(self.raised(NotALog, machine.add_edge, 0, "d", 5).value, "d")
        self.assertEqual(self.raised(EdgeExists, machine.add_edge, *there).edge, there)
        self.assertEqual(self.raised(LimitExceeded, machine.add_edge, 5, "c", 5).limit, 14)

    def test_removing_an_unknown_edge(self):
        machine = machine_of(2, 3, [(0, "a", 1)], (0,), (1,))
        before = look_of(machine)
        for edge in ((1, "a", 0), (0, "b", 1), (0, "a", 2), (9, "a", 1), (0, "a", -1), (0, "z", 1), (0, "", 1)):
            with self.subTest(edge):
                self.assertEqual(self.raised(UnknownEdge, machine.remove_edge, *edge).edge, edge)
        self.assertEqual(look_of(machine), before)
        machine.remove_edge(0, "a", 1)
        self.assertEqual(self.raised(UnknownEdge, machine.remove_edge, 0, "a", 1).edge, (0, "a", 1))

    def test_arguments_by_name(self):
        machine = Machine(2, 3)
        self.assertIsNone(machine.add_edge(target=2, origin=0, sign="b"))
        self.assertIsNone(machine.add_edge(1, target=0, sign="a"))
        self.assertEqual(machine.edges(), ((0, "b", 2), (1, "a", 0)))
        self.assertIsNone(machine.remove_edge(sign="b", target=2, origin=0))
        self.assertEqual(machine.edges(), ((1, "a", 0),))
        self.assertEqual(self.raised(UnknownState, machine.add_edge, target=8, sign="a", origin=9).state, 9)

    def test_returned_tuples_are_of_their_moment(self):
        machine = machine_of(2, 3, [(0, "a", 1)], (0,), (1,))
        edges, starts, ends = machine.edges(), machine.starts(), machine.ends()
        states = machine.states_after("a")
        machine.add_edge(0, "a", 2)
        machine.remove_edge(0, "a", 1)
        machine.add_start(1)
        machine.remove_start(0)
        machine.add_end(0)
        machine.remove_end(1)
        self.assertEqual((edges, starts, ends, states), (((0, "a", 1),), (0,), (1,), (1,)))
        self.assertEqual((machine.edges(), machine.starts(), machine.ends()), (((0, "a", 2),), (1,), (0,)))


class StartAndEndTest(MachineCase):
    def test_whether_something_changed(self):
        machine = Machine(2, 3)
        for add, remove, told in ((machine.add_start, machine.remove_start, machine.starts),
                                  (machine.add_end, machine.remove_end, machine.ends)):
            self.assertIs(remove(1), False)
            self.assertIs(add(2), True)
            self.assertIs(add(2), False)
            self.assertIs(add(0), True)
            self.assertEqual(told(), (0, 2))
            self.assertIs(type(told()), tuple)
            self.assertIs(remove(1), False)
            self.assertIs(remove(2), True)
            self.assertIs(remove(2), False)
            self.assertEqual(told(), (0,))
            self.assertIs(remove(0), True)
            self.assertEqual(told(), ())

    def test_all_states_may_be_both(self):
        machine = machine_of(1, 6, (), (5, 3, 1, 0, 2, 4), (4, 2, 0, 1, 3, 5))
        self.assertEqual(machine.starts(), (0, 1, 2, 3, 4, 5))
        self.assertEqual(machine.ends(), (0, 1, 2, 3, 4, 5))

    def test_starts_and_ends_are_apart(self):
        machine = machine_of(1, 3, (), (1,), (2,))
        self.assertEqual((machine.starts(), machine.ends()), ((1,), (2,)))
        self.assertIs(machine.remove_start(2), False)
        self.assertIs(machine.remove_end(1), False)
        self.assertEqual((machine.starts(), machine.ends()), ((1,), (2,)))

    def test_unknown_states(self):
        machine = machine_of(2, 3, [(0, "a", 1)], (0,), (1,))
        before = look_of(machine)
        for call in (machine.add_start, machine.add_end, machine.remove_start, machine.remove_end):
            for state in (-1, 3, 6, 10 ** 29) + NO_INTEGERS:
                with self.subTest((call.__name__, state)):
                    self.assertIs(self.raised(UnknownState, call, state).state, state)
                    self.assertIs(self.raised(UnknownState, call, state=state).state, state)
        self.assertEqual(look_of(machine), before)

    def test_arguments_by_name(self):
        machine = Machine(1, 2)
        self.assertIs(machine.add_start(state=1), True)
        self.assertIs(machine.add_end(state=0), True)
        self.assertEqual((machine.starts(), machine.ends()), ((1,), (0,)))
        self.assertIs(machine.remove_start(state=1), True)
        self.assertIs(machine.remove_end(state=0), True)
        self.assertEqual((machine.starts(), machine.ends()), ((), ()))


class TwinTest(MachineCase):
    def edit(self, machine):
        machine.add_edge(2, "b", 0)
        machine.remove_edge(0, "a", 1)
        machine.add_start(2)
        machine.remove_start(0)
        machine.add_end(0)
        machine.remove_end(1)

    def some_machine(self):
        return machine_of(2, 3, [(0, "a", 1), (1, "b", 1), (1, "a", 2)], (0, 1), (1, 2))

    def test_twin_is_equal(self):
        for machine in (self.some_machine(), full_machine(), Machine(1, 1), Machine(3, 6)):
            twin = machine.twin()
            self.assertIsNot(twin, machine)
            self.assertIs(type(twin), Machine)
            self.assertEqual(look_of(twin), look_of(machine))
            self.assertEqual(twin.first_log(), machine.first_log())

    def test_edits_of_the_first_do_not_reach_the_twin(self):
        machine = self.some_machine()
        twin = machine.twin()
        before = look_of(twin)
        self.edit(machine)
        self.assertEqual(look_of(twin), before)
        self.assertNotEqual(look_of(machine), before)

    def test_edits_of_the_twin_do_not_reach_the_first(self):
        machine = self.some_machine()
        before = look_of(machine)
        twin = machine.twin()
        self.edit(twin)
        self.assertEqual(look_of(machine), before)
        self.assertNotEqual(look_of(twin), before)

    def test_each_single_edit_stays_with_its_machine(self):
        edits = (
            lambda machine: machine.add_edge(2, "b", 0), lambda machine: machine.remove_edge(0, "a", 1),
            lambda machine: machine.add_start(2), lambda machine: machine.remove_start(0),
            lambda machine: machine.add_end(0), lambda machine: machine.remove_end(1),
        )
        for edit in edits:
            machine = self.some_machine()
            twin = machine.twin()
            before = look_of(machine)
            edit(twin)
            self.assertEqual(look_of(machine), before)
            self.assertNotEqual(look_of(twin), before)
            edit(machine)
            self.assertEqual(look_of(machine), look_of(twin))

    def test_twin_of_a_twin(self):
        machine = self.some_machine()
        twin = machine.twin()
        second = twin.twin()
        before = look_of(machine)
        self.edit(twin)
        self.assertEqual((look_of(machine), look_of(second)), (before, before))
        self.edit(second)
        self.assertEqual(look_of(second), look_of(twin))
        self.assertEqual(look_of(machine), before)

    def test_full_twin_has_the_same_limit(self):
        twin = full_machine().twin()
        self.assertEqual(self.raised(LimitExceeded, twin.add_edge, 5, "a", 5).limit, 14)
        self.assertEqual(self.raised(UnknownState, twin.add_start, 6).state, 6)


class LogTest(MachineCase):
    def test_machine_without_anything(self):
        for signs in (1, 2, 3):
            machine = Machine(signs, 2)
            self.assertEqual(machine.states_after(""), ())
            self.assertEqual(machine.states_after("a"), ())
            self.assertIs(machine.has_log(""), False)
            self.assertIsNone(machine.first_log())

    def test_machine_without_starts(self):
        machine = machine_of(2, 2, [(0, "a", 1), (1, "b", 0)], (), (0, 1))
        self.check_answers(machine)
        self.assertIsNone(machine.first_log())

    def test_machine_without_ends(self):
        machine = machine_of(2, 2, [(0, "a", 1), (1, "b", 0)], (0, 1), ())
        self.check_answers(machine)
        self.assertEqual(machine.states_after("ab"), (0,))
        self.assertIsNone(machine.first_log())

    def test_machine_without_edges(self):
        machine = machine_of(2, 3, (), (0, 2), (1,))
        self.assertEqual(machine.states_after(""), (0, 2))
        self.assertEqual(machine.states_after("a"), ())
        self.assertIs(machine.has_log(""), False)
        self.assertIsNone(machine.first_log())
        machine.add_end(2)
        self.assertIs(machine.has_log(""), True)
        self.assertIs(machine.has_log("a"), False)
        self.assertEqual(machine.first_log(), "")

    def test_end_that_cannot_be_reached(self):
        machine = machine_of(2, 4, [(0, "a", 0), (0, "b", 1), (1, "a", 0), (3, "a", 2)], (0,), (2,))
        self.check_answers(machine)
        self.assertIsNone(machine.first_log())

    def test_circles(self):
        machine = machine_of(3, 3, [(0, "a", 1), (1, "b", 2), (2, "c", 0), (2, "c", 2)], (0,), (2,))
        self.check_answers(machine, 6)
        self.assertIs(machine.has_log("ab" + "c" * 100), True)
        self.assertIs(machine.has_log("abc" * 50 + "ab"), True)
        self.assertIs(machine.has_log("abc" * 50 + "a"), False)

    def test_several_starts_and_paths(self):
        machine = machine_of(2, 4, [(0, "a", 1), (1, "a", 1), (2, "a", 3), (3, "b", 0), (0, "a", 2)], (2, 0), (3, 1))
        self.check_answers(machine, 6)
        self.assertEqual(machine.states_after(""), (0, 2))
        self.assertEqual(machine.states_after("a"), (1, 2, 3))
        self.assertIs(type(machine.states_after("a")), tuple)

    def test_first_log_goes_by_length_before_alphabet(self):
        machine = machine_of(3, 4, [(0, "a", 1), (1, "a", 3), (0, "c", 3)], (0,), (3,))
        self.assertEqual(machine.first_log(), "c")

    def test_first_log_goes_by_alphabet_at_one_length(self):
        machine = machine_of(3, 6, [(0, "c", 1), (1, "a", 5), (0, "b", 2), (2, "c", 5), (0, "b", 3), (3, "b", 5)],
                             (0,), (5,))
        self.assertEqual(machine.first_log(), "bb")
        machine.add_start(1)
        self.assertEqual(machine.first_log(), "a")

    def test_first_log_over_several_starts(self):
        machine = machine_of(2, 6, [(0, "b", 1), (1, "a", 5), (2, "a", 3), (3, "b", 4), (3, "b", 5)], (0, 2), (5,))
        self.assertEqual(machine.first_log(), "ab")

    def test_longest_first_log(self):
        machine = machine_of(2, 6, [(state, "ba"[state % 2], state + 1) for state in range(5)], (0,), (5,))
        self.assertEqual(machine.first_log(), "babab")

    def test_many_small_machines(self):
        possible = [(origin, sign, target) for origin in range(3) for sign in "ab" for target in range(3)]
        for mask in range(1, 2 ** len(possible), 2999):
            edges = [edge for place, edge in enumerate(possible) if mask >> place & 1][:14]
            machine = machine_of(2, 3, edges, [mask % 3, mask % 2], [mask % 5 % 3])
            with self.subTest(mask):
                self.check_answers(machine, 4)

    def test_many_larger_machines(self):
        possible = [(origin, sign, target) for origin in range(6) for sign in "abc" for target in range(6)]
        for seed in range(1, 40):
            edges = sorted({possible[(seed * seed * 31 + place * place * 17 + place * seed) % len(possible)]
                            for place in range(9)})
            machine = machine_of(3, 6, edges, [seed % 6], [(seed * 5 + 3) % 6])
            with self.subTest(seed):
                self.check_answers(machine, 5)

    def test_answers_behind_each_edit(self):
        machine = machine_of(2, 3, [(0, "a", 1), (1, "b", 2)], (0,), (2,))
        self.check_answers(machine)
        self.assertEqual((machine.first_log(), machine.states_after("ab")), ("ab", (2,)))
        machine.add_edge(0, "b", 2)
        self.check_answers(machine)
        self.assertEqual((machine.first_log(), machine.states_after("b")), ("b", (2,)))
        machine.remove_edge(1, "b", 2)
        self.check_answers(machine)
        self.assertEqual((machine.has_log("ab"), machine.states_after("ab")), (False, ()))
        machine.add_end(1)
        self.check_answers(machine)
        self.assertEqual((machine.first_log(), machine.has_log("a")), ("a", True))
        machine.remove_end(2)
        self.check_answers(machine)
        self.assertIs(machine.has_log("b"), False)
        machine.add_start(1)
        self.check_answers(machine)
        self.assertEqual((machine.first_log(), machine.states_after("")), ("", (0, 1)))
        machine.remove_start(1)
        self.check_answers(machine)
        self.assertEqual((machine.first_log(), machine.states_after("")), ("a", (0,)))
        machine.remove_start(0)
        self.check_answers(machine)
        self.assertIsNone(machine.first_log())

    def test_questions_change_nothing(self):
        machine = full_machine()
        before = look_of(machine)
        for _ in range(3):
            self.assertEqual(machine.first_log(), "aaaa")
            self.assertEqual(machine.states_after("abc"), (3,))
        self.assertEqual(look_of(machine), before)

    def test_states_behind_given_states(self):
        machine = machine_of(2, 4, "0a1 1a1 1b2 2a3", (0,), (3,))
        for states in ((), (0,), (1, 2), (0, 1, 2, 3)):
            for log in strings_up_to(4, "ab"):
                self.assertEqual(machine.states_behind(states, log), path_ends(machine.edges(), states, log))

    def test_arguments_by_name(self):
        machine = machine_of(2, 2, [(0, "a", 1)], (0,), (1,))
        self.assertEqual(machine.states_after(log="a"), (1,))
        self.assertIs(machine.has_log(log="a"), True)
        self.assertIs(machine.has_log(log=""), False)


class PairTest(MachineCase):
    def test_equal_numbers_of_signs(self):
        for signs in (1, 2, 3):
            self.assertIsNone(require_pair((Machine(signs, 1), Machine(signs, 6))))

    def test_unlike_numbers_of_signs(self):
        for one in (1, 2, 3):
            for two in (1, 2, 3):
                if one != two:
                    self.raised(Unpaired, require_pair, (Machine(one, 2), Machine(two, 2)))

    def test_one_machine_twice(self):
        machine = full_machine()
        self.assertIsNone(require_pair((machine, machine)))
        self.assertIsNone(require_pair((machine, machine.twin())))

    def test_kinds(self):
        pair = Machine(2, 1), Machine(2, 2)
        self.assertEqual([machine_of_kind(pair, kind).states for kind in "AB"], [1, 2])
        self.assertEqual([other_kind(kind) for kind in "AB"], ["B", "A"])

    def test_by_name_and_nothing_changes(self):
        one, two = full_machine(), Machine(2, 1)
        before = look_of(one), look_of(two)
        self.raised(Unpaired, require_pair, pair=(one, two))
        self.assertIsNone(require_pair(pair=(one, one)))
        self.assertEqual((look_of(one), look_of(two)), before)


class ExampleTest(unittest.TestCase):
    def test_examples_of_the_document(self):
        one, two = Machine(2, 2), Machine(2, 3)
        self.assertIsNone(one.add_edge(0, "a", 1))
        self.assertIsNone(two.add_edge(0, "a", 1))
        self.assertIsNone(two.add_edge(1, "b", 2))
        changed = [one.add_start(0), one.add_end(1), two.add_start(0), two.add_end(2)]
        self.assertEqual(changed, [True, True, True, True])
        self.assertEqual((one.has_log("a"), two.has_log("a"), two.first_log()), (True, False, "ab"))

    def test_examples_of_the_readme(self):
        readme = os.path.join(os.path.dirname(os.path.abspath(__file__)), "..", "README.md")
        failed, tried = doctest.testfile(readme, module_relative=False, encoding="utf-8")
        self.assertEqual(failed, 0)
        self.assertGreater(tried, 0)

    def test_interface_is_defined_in_its_file(self):
        for name in ("Machine", "require_pair"):
            self.assertEqual(getattr(machines, name).__module__, "gaprules.machines")


if __name__ == "__main__":
    unittest.main()
