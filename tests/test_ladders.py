import unittest
from itertools import combinations, permutations, product

from gaprules import ladders
from gaprules.downsets import Downset
from gaprules.errors import Unpaired
from gaprules.ladders import is_barrier, is_ladder, ladder_logs, ladder_or_barrier
from gaprules.machines import Machine
from gaprules.signs import contains
from tests.helpers import (
    ProgramCase, example_pair, look_of, machine_of, machines_without_logs, random_pairs,
)


def sign_sets(signs):
    return ["".join(group) for many in range(1, signs + 1) for group in combinations("abc"[:signs], many)]


def moves_by_search(machine, signs):
    """The pairs of states that a loop of just these signs links, by a search over signs seen."""
    ways = {state: reached(machine, signs, state) for state in range(machine.states)}
    return {
        (origin, target)
        for origin in ways for middle, _ in ways[origin] if (middle, signs) in ways[middle]
        for target, _ in ways[middle]
    }


def reached(machine, signs, origin):
    """The states that strings of the signs lead to from the origin, with the signs of the string."""
    todo = [(origin, "")]
    found = {(origin, "")}
    while todo:
        here, seen = todo.pop()
        for begin, sign, end in machine.edges():
            behind = (end, "".join(sorted(set(seen + sign))))
            if begin == here and sign in signs and behind not in found:
                found.add(behind)
                todo.append(behind)
    return found


def steps_by_search(pair):
    """All pairs of pairs that one step of a barrier links."""
    one, two = pair
    steps = {
        ((origin, begin), (target, end))
        for origin, sign, target in one.edges() for begin, letter, end in two.edges() if sign == letter
    }
    for signs in sign_sets(one.signs):
        for origin, target in moves_by_search(one, signs):
            for begin, end in moves_by_search(two, signs):
                steps.add(((origin, begin), (target, end)))
    return steps


def barrier_by_search(pair, pairs, steps):
    one, two = pair
    return (
        all(start in pairs for start in product(one.starts(), two.starts()))
        and not any(end in pairs for end in product(one.ends(), two.ends()))
        and all(behind in pairs for here, behind in steps if here in pairs)
    )


def ladder_by_trial(pair, ladder):
    """Whether each machine has a way through all pieces, state by state."""
    return all(way_through(machine, ladder, side) for side, machine in enumerate(pair))


def way_through(machine, ladder, side):
    def leads(origin, string, target):
        if string == "":
            return origin == target
        return any(leads(end, string[1:], target) for begin, sign, end in machine.edges()
                   if (begin, sign) == (origin, string[0]))

    def passes(origin, piece, target):
        if piece[0] == "sign":
            return leads(origin, piece[1], target)
        before, turn, behind = piece[2 + side]
        return any(leads(origin, before, middle) and leads(middle, turn, middle) and leads(middle, behind, target)
                   for middle in range(machine.states))

    states = set(machine.starts())
    for piece in ladder:
        states = {target for target in range(machine.states)
                  if any(passes(origin, piece, target) for origin in states)}
    return any(state in machine.ends() for state in states)


def loop(signs, one=None, other=None):
    return ("loop", signs, one or ("", signs, ""), other or ("", signs, ""))


class LadderCase(ProgramCase):
    def check_ladder_form(self, ladder, signs):
        """The form and the bounds of point 17."""
        self.assertIs(type(ladder), tuple)
        self.assertLessEqual(len(ladder), 40)
        for piece in ladder:
            self.assertIs(type(piece), tuple)
            if piece[0] == "sign":
                self.assertEqual(len(piece), 2)
                self.assertIn(piece[1], list("abc"[:signs]))
            else:
                self.check_loop_form(piece, signs)

    def check_loop_form(self, piece, signs):
        name, used, *triples = piece
        self.assertEqual((name, len(triples)), ("loop", 2))
        self.assertIn(used, sign_sets(signs))
        for triple in triples:
            self.assertIs(type(triple), tuple)
            self.assertEqual(len(triple), 3)
            for string in triple:
                self.assertIs(type(string), str)
                self.assertLessEqual(len(string), 40)
                self.assertLessEqual(set(string), set(used))
            self.assertEqual(set(triple[1]), set(used))

    def check_barrier_form(self, pair, barrier):
        self.assertIs(type(barrier), tuple)
        self.assertEqual(barrier, tuple(sorted(set(barrier))))
        for at in barrier:
            self.assertIs(type(at), tuple)
            self.assertIn(at, list(product(range(pair[0].states), range(pair[1].states))))

    def check_answer(self, pair):
        """Check the answer against the definitions and return its name."""
        answer = ladder_or_barrier(pair)
        self.assertIs(type(answer), tuple)
        name, parts = answer
        if name == "ladder":
            self.check_ladder_form(parts, pair[0].signs)
            self.assertIs(ladder_by_trial(pair, parts), True)
            self.assertIs(is_ladder(pair, parts), True)
        else:
            self.assertEqual(name, "barrier")
            self.check_barrier_form(pair, parts)
            self.assertIs(barrier_by_search(pair, parts, steps_by_search(pair)), True)
            self.assertIs(is_barrier(pair, parts), True)
        return name


class LadderOrBarrierTest(LadderCase):
    def test_example_has_a_barrier(self):
        self.assertEqual(self.check_answer(example_pair()), "barrier")

    def test_known_answers(self):
        ab, ba = machine_of(2, 2, "0a1 1b0", (0,), (0,)), machine_of(2, 2, "0b1 1a0", (0,), (0,))
        odd, even = machine_of(1, 2, "0a1 1a0", (0,), (1,)), machine_of(1, 2, "0a1 1a0", (0,), (0,))
        all_a, all_b = machine_of(2, 1, "0a0", (0,), (0,)), machine_of(2, 1, "0b0", (0,), (0,))
        # b, bb, .. without and with signs a in front.
        some_b, a_then_b = machine_of(2, 2, "0b1 1b1", (0,), (1,)), machine_of(2, 2, "0a0 0b1 1b1", (0,), (1,))
        known = (
            ((ab, ba), "ladder"), ((ab, ab), "ladder"), ((odd, even), "ladder"), ((all_a, all_b), "ladder"),
            ((ab, some_b), "barrier"), ((all_a, some_b), "barrier"), ((all_b, some_b), "ladder"),
            ((ba, a_then_b), "barrier"), ((ab, a_then_b), "ladder"), ((all_a, a_then_b), "barrier"),
            ((a_then_b, some_b), "ladder"), ((a_then_b, a_then_b), "ladder"),
        )
        for place, (pair, name) in enumerate(known):
            with self.subTest(place):
                self.assertEqual(self.check_answer(pair), name)
                self.assertEqual(self.check_answer((pair[1], pair[0])), name)

    def test_loops_of_all_sets_of_signs(self):
        # Both machines have rounds over the signs only, in orders of their own, behind an "a" or "c".
        for signs in sign_sets(3):
            turned = signs[::-1]
            one = [(0, "a", 1), (len(signs), "c", 5)] + [
                (1 + place, sign, 1 + (place + 1) % len(signs)) for place, sign in enumerate(signs)]
            two = [(0, "a", 1), (1, "c", 5)] + [
                (1 + place, sign, 1 + (place + 1) % len(signs)) for place, sign in enumerate(turned)]
            pair = machine_of(3, 6, one, (0,), (5,)), machine_of(3, 6, two, (0,), (5,))
            self.assertEqual(self.check_answer(pair), "ladder")

    def test_loops_of_unlike_signs_do_not_match(self):
        # Rounds over a and b, and rounds over a alone: no common log, and no loop of both.
        one = machine_of(2, 3, "0a1 1b2 2a1", (0,), (1,))
        two = machine_of(2, 2, "0b1 1a1", (0,), (1,))
        self.assertEqual(self.check_answer((one, two)), "barrier")
        one.add_edge(1, "a", 1)
        self.assertEqual(self.check_answer((one, two)), "barrier")
        two.add_edge(1, "b", 1)
        self.assertEqual(self.check_answer((one, two)), "ladder")

    def test_no_starts_no_ends_no_edges(self):
        full = machine_of(2, 2, "0a1 1b0 0b0", (0,), (0, 1))
        for machine in machines_without_logs() + (machine_of(2, 2, "", (0,), (1,)),):
            for pair in ((full, machine), (machine, full), (machine, machine)):
                self.assertEqual(self.check_answer(pair), "barrier")
        empty = machine_of(2, 3, "", (0, 1), (1, 2))
        self.assertEqual(self.check_answer((empty, full)), "ladder")
        self.assertEqual(self.check_answer((empty, empty)), "ladder")
        self.assertIs(is_ladder((empty, full), ()), True)

    def test_one_machine_twice(self):
        for pair in random_pairs(30, 2, 6, 10):
            for machine in pair:
                name = "barrier" if machine.first_log() is None else "ladder"
                self.assertEqual(self.check_answer((machine, machine)), name)

    def test_common_logs_make_ladders(self):
        for log in ("", "a", "bab", "cabca"):
            edges = [(place, sign, place + 1) for place, sign in enumerate(log)]
            one = machine_of(3, 6, edges, (0,), (len(log),))
            two = machine_of(3, 6, [(5 - o, s, 5 - t) for o, s, t in edges], (5,), (5 - len(log),))
            self.assertEqual(self.check_answer((one, two)), "ladder")
            self.assertEqual(len(ladder_or_barrier((one, two))[1]), len(log))

    def test_small_pairs_have_just_one_of_them(self):
        for signs in (1, 2, 3):
            for place, pair in enumerate(random_pairs(60, signs, 3, 6)):
                with self.subTest((signs, place)):
                    name = self.check_answer(pair)
                    steps = steps_by_search(pair)
                    states = list(product(range(pair[0].states), range(pair[1].states)))
                    barred = any(
                        barrier_by_search(pair, pairs, steps)
                        for many in range(len(states) + 1) for pairs in combinations(states, many)
                    )
                    self.assertIs(barred, name == "barrier")

    def test_ladders_are_where_chains_grow_without_end(self):
        names = []
        for signs in (1, 2, 3):
            for place, pair in enumerate(random_pairs(40, signs, 3, 7)):
                with self.subTest((signs, place)):
                    names.append(self.check_answer(pair))
                    empty = [any(Downset(pair, kind, depth).is_empty() for depth in range(1, 21)) for kind in "AB"]
                    self.assertEqual(empty, [names[-1] == "barrier"] * 2)
        self.assertGreater(min(names.count("ladder"), names.count("barrier")), 20)

    def test_larger_pairs(self):
        for signs in (1, 2, 3):
            for place, pair in enumerate(random_pairs(60, signs, 6, 14)):
                with self.subTest((signs, place)):
                    self.check_answer(pair)

    def test_long_rounds(self):
        # One ring of six states for each machine, with the three signs far apart.
        ring = "0a1 1a2 2b3 3b4 4c5 5c0"
        for start, end in product(range(6), range(6)):
            pair = machine_of(3, 6, ring, (0,), (3,)), machine_of(3, 6, ring, (start,), (end,))
            self.assertEqual(self.check_answer(pair), "ladder")

    def test_the_answer_is_that_of_the_machines_as_they_are(self):
        one, two = example_pair()
        self.assertEqual(self.check_answer((one, two)), "barrier")
        one.add_edge(1, "b", 1)
        self.assertEqual(self.check_answer((one, two)), "ladder")
        two.remove_edge(0, "a", 1)
        self.assertEqual(self.check_answer((one, two)), "barrier")
        two.add_start(1)
        two.add_end(1)
        self.assertEqual(self.check_answer((one, two)), "barrier")
        one.add_end(0)
        self.assertEqual(self.check_answer((one, two)), "ladder")

    def test_machines_are_not_modified(self):
        for pair in random_pairs(20, 2, 4, 8):
            before = [look_of(machine) for machine in pair]
            name, parts = ladder_or_barrier(pair)
            is_ladder(pair, parts) if name == "ladder" else is_barrier(pair, parts)
            self.assertEqual([look_of(machine) for machine in pair], before)

    def test_unlike_numbers_of_signs(self):
        for one, two in permutations((1, 2, 3), 2):
            self.raised(Unpaired, ladder_or_barrier, (Machine(one, 2), Machine(two, 2)))
            pair = machine_of(one, 1, "0a0", (0,), (0,)), machine_of(two, 1, "0a0", (0,), (0,))
            self.raised(Unpaired, ladder_or_barrier, pair)


class LadderLogsTest(LadderCase):
    LADDER = (("sign", "c"), loop("ab", ("", "ab", ""), ("b", "ab", "a")), ("sign", "b"), loop("a", ("a", "aa", "")))

    def test_rounds(self):
        self.assertEqual(ladder_logs(self.LADDER, 0), ("cba", "cbab"))
        self.assertEqual(ladder_logs(self.LADDER, 1), ("cab" + "b" + "aaa", "cbaba" + "b" + "a"))
        self.assertEqual(ladder_logs(self.LADDER, 3), ("cababab" + "b" + "a" * 7, "cbabababa" + "b" + "aaa"))
        self.assertEqual(ladder_logs(self.LADDER, 50)[0], "c" + "ab" * 50 + "b" + "a" * 101)

    def test_without_loops_and_without_pieces(self):
        for rounds in (0, 1, 2):
            self.assertEqual(ladder_logs((), rounds), ("", ""))
            self.assertEqual(ladder_logs((("sign", "b"), ("sign", "a")), rounds), ("ba", "ba"))

    def test_examples_of_the_document(self):
        self.assertEqual(ladder_logs((loop("ab", ("", "ab", ""), ("b", "ab", "a")),), 2), ("abab", "bababa"))

    def test_logs_of_returned_ladders(self):
        tried = 0
        for signs in (1, 2, 3):
            for pair in random_pairs(40, signs, 6, 12):
                name, ladder = ladder_or_barrier(pair)
                if name == "ladder":
                    tried += 1
                    self.check_logs(pair, ladder)
        self.assertGreater(tried, 20)

    def check_logs(self, pair, ladder):
        """The logs are logs, and with rounds enough the later ones contain the earlier ones."""
        one, two = pair
        # What 40 signs of a piece have, as many of its rounds have, too.
        for rounds, more in ((1, 130), (2, 170)):
            logs, longer = ladder_logs(ladder, rounds), ladder_logs(ladder, more)
            self.assertEqual((one.has_log(logs[0]), two.has_log(logs[1])), (True, True))
            self.assertEqual((contains(longer[0], logs[1]), contains(longer[1], logs[0])), (True, True))


class IsLadderTest(LadderCase):
    PAIR = (
        machine_of(3, 5, "0c1 1a2 2b1 1b3 3a3 3b4", (0,), (3, 4)),
        machine_of(3, 5, "0c1 1b2 2a1 1b3 3a3", (0,), (3,)),
    )
    LADDER = (
        ("sign", "c"), loop("ab", ("", "ab", ""), ("", "ba", "")), ("sign", "b"),
        loop("a", ("", "a", ""), ("a", "a", "aa")),
    )

    def check(self, pair, ladder, answer):
        self.check_ladder_form(ladder, pair[0].signs)
        self.assertIs(ladder_by_trial(pair, ladder), answer)
        self.assertIs(is_ladder(pair, ladder), answer)

    def test_a_ladder(self):
        self.check(self.PAIR, self.LADDER, True)

    def test_pieces_left_out(self):
        self.check(self.PAIR, self.LADDER[1:], False)
        self.check(self.PAIR, self.LADDER[:2] + self.LADDER[3:], False)
        self.check(self.PAIR, self.LADDER[:1], False)
        self.check(self.PAIR, (), False)
        # Loops may be left out where they lead back to where they begin.
        self.check(self.PAIR, self.LADDER[:1] + self.LADDER[2:], True)
        self.check(self.PAIR, self.LADDER[:3], True)

    def test_pieces_doubled(self):
        self.check(self.PAIR, self.LADDER[:1] + self.LADDER, False)
        self.check(self.PAIR, self.LADDER[:3] + self.LADDER[2:], False)
        self.check(self.PAIR, self.LADDER + self.LADDER[3:], True)
        self.check(self.PAIR, self.LADDER[:2] + self.LADDER[1:], True)

    def test_pieces_exchanged(self):
        orders = {order for order in permutations(self.LADDER) if is_ladder(self.PAIR, order)}
        self.assertEqual(orders, {self.LADDER})
        for order in permutations(self.LADDER):
            self.check(self.PAIR, order, order == self.LADDER)

    def test_machines_exchanged(self):
        self.check((self.PAIR[1], self.PAIR[0]), self.LADDER, False)
        other = [piece[:2] + (piece[3], piece[2]) if piece[0] == "loop" else piece for piece in self.LADDER]
        self.check((self.PAIR[1], self.PAIR[0]), tuple(other), True)
        self.check(self.PAIR, tuple(other), False)

    def test_only_one_machine_gets_through(self):
        # From its end 4 no edge leads on, in the second machine.
        self.check(self.PAIR, self.LADDER + (("sign", "a"),), True)
        self.check(self.PAIR, self.LADDER + (("sign", "b"),), False)
        one, two = self.PAIR
        blocked = machine_of(3, 5, "0c1 1b2 2a1 1b3 3a3", (0,), (2,))
        self.check((one, blocked), self.LADDER, False)
        self.check((blocked, two), self.LADDER[:1] + self.LADDER[2:], False)
        self.check((one, Machine(3, 2)), self.LADDER, False)
        self.check((Machine(3, 2), two), self.LADDER, False)
        self.check((Machine(3, 2), two), (), False)

    def test_a_round_leads_back_to_its_own_state(self):
        # From the states 0 and 1 "a" leads to 0 and 1, but from none of them back to itself.
        swap = machine_of(1, 2, "0a1 1a0", (0, 1), (0, 1))
        stay = machine_of(1, 1, "0a0", (0,), (0,))
        self.check((swap, stay), (loop("a"),), False)
        self.check((stay, swap), (loop("a"),), False)
        self.check((stay, stay), (loop("a"),), True)
        self.check((swap, stay), (loop("a", ("", "aa", "")),), True)
        self.check((swap, stay), (loop("a", ("", "aaa", "")),), False)

    def test_the_parts_of_a_loop_in_their_order(self):
        one = machine_of(2, 4, "0a1 1b2 2a1 1b3", (0,), (3,))
        both = machine_of(2, 1, "0a0 0b0", (0,), (0,))
        for triple, answer in (
            (("a", "ba", "b"), True), (("ab", "ab", "b"), False), (("a", "ba", "bab"), True), (("b", "ba", "a"), False),
            (("", "ab", "ab"), False), (("aba", "baba", "b"), True), (("ab", "ab", "ab"), True),
            (("a", "ab", "b"), False),
        ):
            with self.subTest(triple):
                self.check((one, both), (loop("ab", triple),), answer)
                self.check((both, one), (loop("ab", None, triple),), answer)

    def test_the_empty_ladder(self):
        end = machine_of(2, 3, "0a1", (0, 2), (1, 2))
        other = machine_of(2, 3, "0a1", (1,), (1,))
        none = machine_of(2, 3, "0a1", (0,), (1, 2))
        no_start, no_end = machine_of(2, 3, "0a1", (), (1, 2)), machine_of(2, 3, "0a1", (0, 2), ())
        for machine in (end, other):
            self.check((machine, end), (), True)
            for wrong in (none, no_start, no_end, Machine(2, 1)):
                self.check((machine, wrong), (), False)
                self.check((wrong, machine), (), False)

    def test_changed_ladders_of_many_pairs(self):
        tried = {True: 0, False: 0}
        for signs in (1, 2, 3):
            for pair in random_pairs(40, signs, 5, 12):
                name, ladder = ladder_or_barrier(pair)
                for other in self.changed(ladder if name == "ladder" else self.LADDER[3:]):
                    answer = ladder_by_trial(pair, other)
                    self.assertIs(is_ladder(pair, other), answer)
                    tried[answer] += 1
        self.assertGreater(min(tried.values()), 50)

    def changed(self, ladder):
        for at in range(len(ladder)):
            yield ladder[:at] + ladder[at + 1:]
            yield ladder[:at + 1] + ladder[at:]
            yield ladder[:at] + ladder[at + 1:at + 2] + ladder[at:at + 1] + ladder[at + 2:]
            if ladder[at][0] == "loop":
                name, signs, one, other = ladder[at]
                for piece in (
                    (name, signs, other, one), (name, signs, (one[2], one[1], one[0]), other),
                    (name, signs, one, (other[0], signs, other[2])), (name, signs, one, ("", other[1], other[2])),
                ):
                    yield ladder[:at] + (piece,) + ladder[at + 1:]
        yield ladder + (("sign", "a"),)
        yield (("sign", "a"),) + ladder
        yield ladder + (loop("a"),)

    def test_loops_against_their_definition(self):
        stay = machine_of(2, 1, "0a0 0b0", (0,), (0,))
        pair = stay, stay
        self.assertIs(is_ladder(pair, (loop("ab"),)), True)
        self.assertIs(is_ladder(pair, (loop("ab", ("", "a", "")),)), False)
        self.assertIs(is_ladder(pair, (loop("ab", None, ("", "bb", "a")),)), False)
        self.assertIs(is_ladder(pair, (loop("a", ("b", "a", "")),)), False)
        self.assertIs(is_ladder(pair, (loop("a", None, ("", "a", "b")),)), False)
        self.assertIs(is_ladder(pair, (loop("ba"),)), False)
        self.assertIs(is_ladder(pair, (loop("aa"),)), False)
        self.assertIs(is_ladder(pair, (loop("", ("", "", ""), ("", "", "")),)), False)

    def test_long_ladders(self):
        stay = machine_of(1, 1, "0a0", (0,), (0,))
        self.check((stay, stay), (("sign", "a"),) * 40, True)
        self.check((stay, stay), (loop("a", ("a" * 40, "a" * 40, "a" * 40)),) * 3, True)


class IsBarrierTest(LadderCase):
    def check(self, pair, pairs, answer):
        barrier = tuple(sorted(pairs))
        self.assertIs(barrier_by_search(pair, barrier, steps_by_search(pair)), answer)
        self.assertIs(is_barrier(pair, barrier), answer)

    def test_the_example(self):
        pair = example_pair()
        self.check(pair, ((0, 0), (1, 1)), True)
        self.check(pair, ((0, 0), (0, 1), (1, 1)), True)
        self.check(pair, ((0, 0), (0, 1), (0, 2), (1, 0), (1, 1)), True)
        self.check(pair, ((0, 0), (0, 1), (0, 2), (1, 0), (1, 1), (1, 2)), False)
        self.check(pair, ((0, 0), (1, 1), (1, 2)), False)
        self.check(pair, ((0, 0),), False)
        self.check(pair, ((1, 1),), False)
        self.check(pair, (), False)

    def test_loops_are_steps(self):
        # The second machine has its round over a and b behind one more "b".
        pair = machine_of(2, 3, "0a1 1b0 1a2", (0,), (2,)), machine_of(2, 4, "0b1 1a2 2b1 3a3", (0,), (3,))
        least = ladder_or_barrier(pair)[1]
        self.assertEqual(least, ((0, 0), (0, 1), (0, 2), (1, 1), (1, 2), (2, 1), (2, 2)))
        self.check(pair, least, True)
        self.check(pair, ((0, 0),), False)
        for left in least:
            self.check(pair, [at for at in least if at != left], False)
        self.check(pair, least + ((2, 3),), False)
        self.check(pair, least + ((0, 3),), False)

    def test_pairs_of_unlike_loops_are_no_steps(self):
        pair = machine_of(2, 2, "0a0 0b1", (0,), (1,)), machine_of(2, 2, "0b0 0a1", (0,), (0,))
        self.check(pair, ((0, 0), (0, 1), (1, 0)), False)
        self.check(pair, ((0, 0), (0, 1)), False)
        alone = machine_of(2, 2, "0a0", (0,), (1,)), machine_of(2, 2, "0b0", (0,), (1,))
        self.check(alone, ((0, 0),), True)
        self.check(alone, ((0, 0), (0, 1), (1, 0)), True)

    def test_the_empty_barrier(self):
        full = machine_of(2, 2, "0a1 1b0", (0,), (0, 1))
        no_start, no_end = machine_of(2, 2, "0a1", (), (1,)), machine_of(2, 2, "0a1", (0,), ())
        for machine in (full, no_start, no_end):
            self.check((machine, no_start), (), True)
            self.check((no_start, machine), (), True)
        for machine in (full, no_end):
            self.check((machine, no_end), (), False)
            self.check((no_end, machine), (), False)

    def test_without_ends_all_pairs_are_a_barrier(self):
        one, two = machine_of(2, 3, "0a1 1b2 2a0", (0, 1), ()), machine_of(2, 2, "0a0 0b1", (0,), (0, 1))
        states = tuple(product(range(3), range(2)))
        self.check((one, two), states, True)
        one.add_end(2)
        self.check((one, two), states, False)

    def test_all_sets_of_pairs(self):
        answers = {True: 0, False: 0}
        for signs in (1, 2, 3):
            for pair in random_pairs(25, signs, 3, 6):
                steps = steps_by_search(pair)
                states = list(product(range(pair[0].states), range(pair[1].states)))
                for many in range(len(states) + 1):
                    for pairs in combinations(states, many):
                        answer = barrier_by_search(pair, pairs, steps)
                        self.assertIs(is_barrier(pair, pairs), answer)
                        answers[answer] += 1
        self.assertGreater(min(answers.values()), 100)

    def test_pairs_left_out_or_added_in_larger_barriers(self):
        for signs in (1, 2, 3):
            for pair in random_pairs(12, signs, 6, 14):
                name, barrier = ladder_or_barrier(pair)
                if name == "barrier":
                    steps = steps_by_search(pair)
                    states = set(product(range(pair[0].states), range(pair[1].states)))
                    others = [set(barrier) ^ {at} for at in sorted(states)]
                    for other in others:
                        answer = barrier_by_search(pair, other, steps)
                        self.assertIs(is_barrier(pair, tuple(sorted(other))), answer)

    def test_only_ascending_pairs_of_states(self):
        pair = example_pair()
        self.assertIs(is_barrier(pair, ((0, 0), (1, 1))), True)
        self.assertIs(is_barrier(pair, ((1, 1), (0, 0))), False)
        self.assertIs(is_barrier(pair, ((0, 0), (0, 0), (1, 1))), False)
        self.assertIs(is_barrier(pair, ((0, 0), (1, 1), (2, 0))), False)
        self.assertIs(is_barrier(pair, ((0, 0), (0, 3), (1, 1))), False)

    def test_a_barrier_of_the_machines_as_they_are(self):
        one, two = example_pair()
        name, barrier = ladder_or_barrier((one, two))
        self.assertEqual(name, "barrier")
        self.check((one, two), barrier, True)
        one.add_edge(1, "b", 1)
        self.check((one, two), barrier, False)
        one.remove_edge(1, "b", 1)
        self.check((one, two), barrier, True)
        two.add_start(2)
        self.check((one, two), barrier, False)
        two.remove_start(2)
        two.add_end(1)
        self.check((one, two), barrier, False)


class InterfaceTest(LadderCase):
    def test_names_and_places(self):
        functions = {
            "ladder_or_barrier": ["pair"], "ladder_logs": ["ladder", "rounds"], "is_ladder": ["pair", "ladder"],
            "is_barrier": ["pair", "barrier"],
        }
        self.check_interface(ladders, functions)

    def test_arguments_by_name(self):
        pair = example_pair()
        self.assertEqual(ladder_or_barrier(pair=pair)[0], "barrier")
        self.assertEqual(ladder_logs(rounds=2, ladder=(loop("ab"),)), ("abab", "abab"))
        self.assertIs(is_ladder(ladder=(), pair=pair), False)
        self.assertIs(is_barrier(barrier=((0, 0), (1, 1)), pair=pair), True)
        self.raised(Unpaired, ladder_or_barrier, pair=(Machine(1, 1), Machine(2, 1)))

    def test_examples_of_the_document(self):
        self.assertEqual(ladder_or_barrier(example_pair())[0], "barrier")


if __name__ == "__main__":
    unittest.main()
