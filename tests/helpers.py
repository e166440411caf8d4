"""What several tests need: machines in one line, strings, and slow but plain ways to the answers."""

import inspect
import random
import unittest
from itertools import product

from gaprules.machines import Machine


def machine_of(signs, states, edges=(), starts=(), ends=()):
    """The machine; edges are triples or one string such as "0a1 1b2"."""
    machine = Machine(signs, states)
    if isinstance(edges, str):
        edges = [(int(edge[0]), edge[1], int(edge[2])) for edge in edges.split()]
    for origin, sign, target in edges:
        machine.add_edge(origin, sign, target)
    for state in starts:
        machine.add_start(state)
    for state in ends:
        machine.add_end(state)
    return machine


def example_pair():
    """The pair of the document's examples: the logs "a" and "ab"."""
    return machine_of(2, 2, "0a1", (0,), (1,)), machine_of(2, 3, "0a1 1b2", (0,), (2,))


def pair_of_45():
    """D_B(1) has 7 rests, D_A(2) has 45."""
    return (
        machine_of(2, 6, "0a1 0b5 1b4 2b5 3a3 3b2 4a0 4a4 4b3 5a0", (0, 1), (5,)),
        machine_of(2, 6, "0a2 0b0 1b4 2a1 2b2 3a0 3b3 4a4 4b5 5b5", (3,), (5,)),
    )


def pair_of_46(signs=2):
    """D_B(1) has 13 rests, D_A(2) has 46."""
    return (
        machine_of(2, 6, "0a2 0b0 2a3 2b5 3a4 3b2 4b3 5a0", (0, 4), (4, 5)),
        machine_of(signs, 6, "0a2 0b0 1a1 1b4 2a5 2b2 3a0 3a1 3b3 4a4 5b5", (3,), (4, 5)),
    )


def pair_of_46_on_the_way():
    """D_A(1) has 7 rests, D_B(2) has 46, D_A(3) is empty."""
    return (
        machine_of(3, 6, "0a0 0c4 1a1 1b0 2a3 3b3 3c1 4b5 5c5", (2,), (5,)),
        machine_of(3, 6, "0a2 1b4 1b5 2a1 3a3 3b4 4a0 5a5 5b3 5c4 5c5", (5,), (4,)),
    )


def machines_without_logs():
    """Four machines over two signs: without all, starts, ends, or a way between these."""
    return (
        Machine(2, 6), machine_of(2, 2, "0a1 1b0", (), (1,)), machine_of(2, 2, "0a1 1b0", (0,), ()),
        machine_of(2, 3, "0a1 2a1", (0,), (2,)),
    )


def random_machine(source, signs, states, edges):
    """A machine with up to so many edges, and each state a start or an end as it comes."""
    possible = list(product(range(states), "abc"[:signs], range(states)))
    chosen = source.sample(possible, min(edges, 14, len(possible)))
    starts = [state for state in range(states) if source.random() < 0.5]
    ends = [state for state in range(states) if source.random() < 0.5]
    return machine_of(signs, states, chosen, starts, ends)


def random_pairs(many, signs, states, edges):
    """So many pairs, always the same ones, with up to so many states and edges each."""
    source = random.Random(f"{many} {signs} {states} {edges}")
    return [
        tuple(random_machine(source, signs, source.randint(1, states), source.randint(0, edges)) for _ in "AB")
        for _ in range(many)
    ]


def chain_cases():
    """Pairs with a kind, a depth, and the length of strings that a search for chains can try out."""
    small = [
        (pair, kind, place % 4, length)
        for signs, length in ((1, 9), (2, 6), (3, 4))
        for place, pair in enumerate(random_pairs(40, signs, 3, 6)) for kind in "AB"
    ]
    larger = [
        (pair, "AB"[place % 2], 1 + place % 2, length)
        for signs, length in ((2, 5), (3, 4)) for place, pair in enumerate(random_pairs(10, signs, 6, 14))
    ]
    return small + larger


def strings_up_to(length, letters="abc"):
    """All strings of the letters, by length and then by alphabet."""
    return ["".join(word) for many in range(length + 1) for word in product(letters, repeat=many)]


def look_of(machine):
    """All that can be seen of a machine, its logs up to length 4 included."""
    logs = [log for log in strings_up_to(4, "abc"[:machine.signs]) if machine.has_log(log)]
    return (machine.signs, machine.states, machine.edges(), machine.starts(), machine.ends(), logs)


def nested_steps(machines, letters, states):
    """The steps of logs that are read at once, each contained in the next one.

    A sign is read by the last logs, or by all of them and perhaps by what they all contain, too.
    Yields the sign, whether what they contain reads it, and the states behind it.
    """
    for sign in letters:
        for first in range(-1, len(machines)):
            choices = [
                [state] if place < first
                else [target for origin, letter, target in machine.edges() if (origin, letter) == (state, sign)]
                for place, (machine, state) in enumerate(zip(machines, states))
            ]
            for behind in product(*choices):
                yield sign, first < 0, behind


def chain_machines(pair, kind, depth):
    return [pair[("AB".index(kind) + place) % 2] for place in range(depth)]


def in_chain(pair, kind, depth, string):
    """Whether a chain of depth logs that begins with the kind has the string in all its logs."""
    machines = chain_machines(pair, kind, depth)
    letters = "abc"[:pair[0].signs]
    todo = [(0, states) for states in product(*[machine.starts() for machine in machines])]
    seen = set(todo)
    while todo:
        found, states = todo.pop()
        if found == len(string) and all(state in machine.ends() for state, machine in zip(states, machines)):
            return True
        for sign, read, behind in nested_steps(machines, letters, states):
            here = (found + read, behind)
            if here not in seen and (not read or string[found:found + 1] == sign):
                seen.add(here)
                todo.append(here)
    return False


def rest_count_by_chains(pair, kind, depth):
    """The number of rests of what the logs of a chain all contain, by reading it backwards twice."""
    machines = chain_machines(pair, kind, depth)
    letters = "abc"[:pair[0].signs]
    starts = set(product(*[machine.starts() for machine in machines]))
    ends = set(product(*[machine.ends() for machine in machines]))
    states = list(starts)
    arcs = []
    for here in states:
        for sign, read, behind in nested_steps(machines, letters, here):
            arcs.append((here, sign if read else "", behind))
            if behind not in starts and behind not in states:
                states.append(behind)
    for _ in range(2):
        arcs, starts, ends, states = backwards(arcs, starts, ends, letters)
    return len(states)


def backwards(arcs, starts, ends, letters):
    """The same strings from behind, by sets of states: its arcs, starts, ends and states."""
    before = {}
    for origin, sign, target in arcs:
        before.setdefault((target, sign), set()).add(origin)

    def spread(found):
        found, todo = set(found), list(found)
        while todo:
            fresh = before.get((todo.pop(), ""), set()) - found
            found |= fresh
            todo.extend(fresh)
        return frozenset(found)

    states = [spread(ends)]
    made = []
    for here in states:
        for sign in letters:
            behind = spread({state for target in here for state in before.get((target, sign), ())})
            made.append((here, sign, behind))
            if behind not in states:
                states.append(behind)
    return made, {states[0]}, {here for here in states if here & starts}, states


class ProgramCase(unittest.TestCase):
    def raised(self, error, call, *arguments, **named):
        """The error of just this class that the call raises."""
        with self.assertRaises(error) as caught:
            call(*arguments, **named)
        return caught.exception

    def check_interface(self, module, functions, classes=()):
        """The functions and classes stand in the module's own file, with the listed arguments."""
        for name, arguments in functions.items():
            found = getattr(module, name)
            self.assertEqual(found.__module__, module.__name__)
            self.assertEqual(list(inspect.signature(found).parameters), arguments)
        for name, methods in classes:
            for method, arguments in methods.items():
                self.assertIn(method, vars(getattr(module, name)))
                found = vars(getattr(module, name))[method]
                self.assertEqual(list(inspect.signature(found).parameters)[1:], arguments)
