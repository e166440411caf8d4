import random
import unittest

from gaprules import texts
from gaprules.errors import ParseError
from gaprules.machines import Machine
from gaprules.rules import require_rules
from gaprules.texts import format_pair, format_rules, parse_pair, parse_rules
from tests.helpers import ProgramCase, example_pair, look_of, machine_of, machines_without_logs, random_pairs
from tests.pairs import pair_of_11_and_12, pair_of_20_and_21
from tests.rulesets import alternating, random_rules

EXAMPLE = (
    "signs 2\n"
    "machine 2\nstarts 0\nends 1\nedge 0 a 1\n"
    "machine 3\nstarts 0\nends 2\nedge 0 a 1\nedge 1 b 2\n"
)
RULES = "B: b aa\nA: - ab\nelse B\n"


class TextCase(ProgramCase):
    def refused(self, text, line, signs=None):
        error = self.parsed(text, signs)
        self.assertIs(type(error), ParseError, text)
        self.assertEqual(error.line, line, text)
        self.assertIs(type(error.line), int)

    def parsed(self, text, signs=None):
        """The pair, the rules (where there is a number of signs), or the ParseError."""
        try:
            return parse_pair(text) if signs is None else parse_rules(text, signs)
        except ParseError as error:
            return error

    def is_read(self, text, signs=None):
        """Whether the text is read; then it is written again as it was."""
        found = self.parsed(text, signs)
        if isinstance(found, ParseError):
            return False
        self.assertEqual(format_pair(found) if signs is None else format_rules(found), text)
        return True

    def fits(self, lines, signs=None):
        """Whether lines may follow these so that a text is read, as their shortest ends tell."""
        if signs is None:
            rest = ["signs 1", "machine 1", "starts", "ends", "machine 1", "starts", "ends"]
            ends = [rest[at:] for at in range(8)]
        else:
            ends = [[], ["else A"], ["else B"]]
        return any(self.is_read("".join(line + "\n" for line in lines + end), signs) for end in ends)

    def check(self, text, signs=None):
        """Check that a text is read or refused at the first line that does not fit; return the line."""
        if self.is_read(text, signs):
            return None
        line = self.parsed(text, signs).line
        *lines, rest = text.split("\n")
        self.assertIs(self.fits(lines[:line], signs), True, text)
        self.assertLessEqual(line, len(lines))
        if line < len(lines):
            self.assertIs(self.fits(lines[:line + 1], signs), False, text)
        return line


def changed_texts(text, source):
    """The text with lines and parts doubled, left out, exchanged or cut, and with other signs."""
    lines = text.split("\n")
    for at in range(len(lines)):
        yield "\n".join(lines[:at] + lines[at + 1:])
        yield "\n".join(lines[:at + 1] + lines[at:])
        yield "\n".join(lines[:at] + [source.choice(lines)] + lines[at + 1:])
        yield "\n".join(lines[:at] + lines[at + 1:at + 2] + lines[at:at + 1] + lines[at + 2:])
        yield "\n".join(lines[:at] + ["", lines[at]] + lines[at + 1:])
        words = lines[at].split(" ")
        for place in range(len(words)):
            yield "\n".join(lines[:at] + [" ".join(words[:place] + words[place + 1:])] + lines[at + 1:])
            yield "\n".join(lines[:at] + [" ".join(words[:place + 1] + words[place:])] + lines[at + 1:])
            for word in ("0", "1", "5", "6", "00", "01", "+1", "-1", "-", "a", "c", "d", "", "A", "A:", "B:", "edge"):
                yield "\n".join(lines[:at] + [" ".join(words[:place] + [word] + words[place + 1:])] + lines[at + 1:])
    for _ in range(20):
        at = source.randrange(len(text))
        yield text[:at]
        yield text[:at] + text[at + 1:]
        yield text[:at] + source.choice(" \n\t0123456abcdAB:-") + text[at:]


class FormatPairTest(TextCase):
    def test_the_example(self):
        self.assertEqual(format_pair(example_pair()), EXAMPLE)
        self.assertEqual(format_pair(pair=example_pair()), EXAMPLE)

    def test_without_starts_ends_or_edges(self):
        pair = Machine(3, 6), machine_of(3, 1, "0c0 0a0", (), (0,))
        self.assertEqual(format_pair(pair), (
            "signs 3\nmachine 6\nstarts\nends\nmachine 1\nstarts\nends 0\nedge 0 a 0\nedge 0 c 0\n"))

    def test_several_starts_and_ends_and_edges_in_order(self):
        one = machine_of(2, 6, "5b0 0b1 0a2 0a1 3a3 0b0", (5, 0, 3), (4, 1))
        self.assertEqual(format_pair((one, Machine(2, 2))), (
            "signs 2\nmachine 6\nstarts 0 3 5\nends 1 4\nedge 0 a 1\nedge 0 a 2\nedge 0 b 0\nedge 0 b 1\n"
            "edge 3 a 3\nedge 5 b 0\nmachine 2\nstarts\nends\n"))

    def test_behind_edits_and_without_traces(self):
        one, two = example_pair()
        before = look_of(one), look_of(two)
        self.assertEqual(format_pair((one, two)), EXAMPLE)
        self.assertEqual((look_of(one), look_of(two)), before)
        one.add_end(0)
        one.remove_edge(0, "a", 1)
        two.remove_start(0)
        self.assertEqual(format_pair((one, two)), (
            "signs 2\nmachine 2\nstarts 0\nends 0 1\nmachine 3\nstarts\nends 2\nedge 0 a 1\nedge 1 b 2\n"))


class ParsePairTest(TextCase):
    def test_what_is_written_is_read_back(self):
        pairs = [example_pair(), pair_of_11_and_12(), pair_of_20_and_21(), (Machine(1, 1), Machine(1, 6))]
        pairs += [(one, two) for one in machines_without_logs() for two in machines_without_logs()]
        for pair in pairs + [pair for signs in (1, 2, 3) for pair in random_pairs(20, signs, 6, 14)]:
            text = format_pair(pair)
            found = parse_pair(text)
            self.assertEqual((type(found), len(found)), (tuple, 2))
            self.assertEqual([look_of(machine) for machine in found], [look_of(machine) for machine in pair])
            self.assertEqual(format_pair(found), text)

    def test_the_read_machines_live_by_themselves(self):
        one, two = parse_pair(EXAMPLE)
        again = parse_pair(EXAMPLE)
        one.add_edge(1, "b", 1)
        two.remove_start(0)
        self.assertEqual(format_pair(again), EXAMPLE)
        self.assertEqual(format_pair(parse_pair(EXAMPLE)), EXAMPLE)
        self.assertEqual((one.edges(), two.starts()), (((0, "a", 1), (1, "b", 1)), ()))
        same = parse_pair("signs 1\nmachine 1\nstarts\nends\nmachine 1\nstarts\nends\n")
        same[0].add_start(0)
        self.assertEqual(same[1].starts(), ())

    def test_too_early_an_end(self):
        for many in range(8):
            lines = EXAMPLE.split("\n")[:many]
            self.refused("".join(line + "\n" for line in lines), many)
            self.refused("\n".join(lines), max(many - 1, 0))
        self.refused("", 0)
        self.refused("signs 2", 0)
        # The last edges may be left out, but not the line end.
        self.assertIs(self.is_read("\n".join(EXAMPLE.split("\n")[:8]) + "\n"), True)
        self.assertIs(self.is_read("\n".join(EXAMPLE.split("\n")[:9]) + "\n"), True)
        self.refused(EXAMPLE[:-1], 9)
        self.refused(EXAMPLE[:-2], 9)

    def test_something_behind_the_last_line_end(self):
        for rest in (" ", "x", "e", "edge 2 a 0", "edge 1 b 2", "signs", "\t"):
            self.refused(EXAMPLE + rest, 10)
        for more in ("\n", "x\n", "machine 2\n", "starts\n", "edge 1 b 2\n", " \n", "edge 0 a 1\n"):
            self.refused(EXAMPLE + more, 10)
        self.refused(EXAMPLE + "edge 2 a 0\nx", 11)
        self.assertIs(self.is_read(EXAMPLE + "edge 2 a 0\n"), True)

    def check_line(self, at, right, wrong):
        lines = EXAMPLE.split("\n")
        for line in right:
            self.assertIs(self.fits(lines[:at] + [line]), True, line)
        for line in wrong:
            for behind in (lines[at + 1:], lines[at:], ["x", ""], [""]):
                self.refused("\n".join(lines[:at] + [line] + behind), at)

    def test_the_line_of_signs(self):
        self.check_line(0, ("signs 1", "signs 2", "signs 3"), (
            "", "signs", "signs 0", "signs 4", "signs 02", "signs 2 ", " signs 2", "signs  2", "signs 2 2", "signs a",
            "Signs 2", "sign 2", "signs +2", "signs -1", "signs 2.0", "signs\t2", "signs 2\r", "2", "machine 2", "signs2",
            "signs 10", "signs \u00b2", "signs \u0662",
        ))

    def test_the_lines_of_machines(self):
        wrong = (
            "", "machine", "machine 0", "machine 7", "machine 02", "machine 2 ", " machine 2", "machine  2", "machine 2 3",
            "machine a", "machines 2", "machine -1", "machine 10", "machine 2\t", "starts", "ends", "signs 2", "machine 1_0",
        )
        right = tuple(f"machine {states}" for states in range(1, 7))
        self.check_line(1, right, wrong + ("edge 0 a 1",))
        self.check_line(5, right + ("edge 0 b 0", "edge 1 a 0"), wrong)

    def test_the_lines_of_starts_and_ends(self):
        for at, word, states in ((2, "starts", 2), (3, "ends", 2), (6, "starts", 3), (7, "ends", 3)):
            last = states - 1
            other = "ends" if word == "starts" else "starts"
            right = (word, f"{word} 0", f"{word} {last}", f"{word} 0 {last}")
            self.check_line(at, right, (
                "", f"{word} ", f" {word}", f"{word} {states}", f"{word} 0 0", f"{word} {last} 0", f"{word}  0", f"{word} 0 ",
                f"{word} 00", f"{word} 0  {last}", f"{word} -1", f"{word} a", f"{word} 0 {last} {last}", f"{word} 0,{last}",
                other, f"{other} 0", "edge 0 a 1", "machine 2", f"{word} 0 {states}", f"{word}0", f"{word} 0 {last} 6",
            ))
        self.check_line(6, ("starts 0 1 2", "starts 1 2", "starts 0 2"), ("starts 0 2 1", "starts 1 0 2", "starts 0 1 1"))

    def test_the_lines_of_edges(self):
        wrong = (
            "", "edge", "edge 0", "edge 0 b", "edge 0 b 1 ", " edge 0 b 1", "edge  0 b 1", "edge 0 b  1", "edge 0 b 1 1",
            "edge 0 c 1", "edge 0 d 1", "edge 0 ab 1", "edge 0  1", "edge 6 b 1", "edge 0 b 6", "edge 00 b 1", "edge 0 b 01",
            "edge -1 b 0", "edge a b 1", "edge 0 0 1", "Edge 0 b 1", "edges 0 b 1", "starts", "ends", "ends 1", "signs 2",
            "edge 0 B 1", "edge 0 b +1", "edge 3 b 3",
        )
        self.check_line(4, ("edge 0 a 0", "edge 1 b 1", "machine 1"), wrong + ("edge 2 a 0", "edge 0 a 2"))
        # Behind the edge 0 a 1.
        self.check_line(5, ("edge 0 b 0", "edge 0 b 1", "edge 1 a 0"), wrong + ("edge 0 a 1", "edge 0 a 0", "edge 0 b 2"))
        self.check_line(9, ("edge 0 a 2", "edge 0 b 0", "edge 2 b 2"), wrong + ("edge 0 a 1", "edge 0 a 0", "machine 1"))
        # Behind the edge 1 b 2.
        self.check_line(10, ("edge 2 a 0", "edge 2 b 2"), wrong[1:] + (
            "edge 1 b 2", "edge 1 b 1", "edge 1 a 2", "edge 0 b 2", "edge 0 a 1", "machine 1", "edge 3 a 0"))

    def test_fourteen_edges_and_not_fifteen(self):
        edges = [f"edge {origin} {sign} {target}" for origin in range(2) for sign in "abc" for target in range(3)]
        head = ["signs 3", "machine 3", "starts", "ends"]
        tail = ["machine 3", "starts", "ends"]
        for many in (13, 14):
            self.assertIs(self.is_read("\n".join(head + edges[:many] + tail + edges[:many]) + "\n"), True)
        self.refused("\n".join(head + edges[:15] + tail) + "\n", 18)
        self.refused("\n".join(head + edges[:14] + tail + edges[:15]) + "\n", 35)
        self.refused("\n".join(head + edges[:16] + tail) + "\n", 18)

    def test_signs_beyond_the_signs(self):
        for signs in (1, 2, 3):
            for sign in "abcd":
                text = f"signs {signs}\nmachine 1\nstarts\nends\nedge 0 {sign} 0\nmachine 1\nstarts\nends\nedge 0 {sign} 0\n"
                if sign in "abc"[:signs]:
                    self.assertIs(self.is_read(text), True)
                else:
                    self.refused(text, 4)

    def test_other_texts(self):
        for text, line in (
            ("", 0), ("x", 0), ("\n", 0), (" ", 0), ("\n\n\n", 0), (RULES, 0), ("signs 2\n\n", 1), ("signs 2\r\n", 0),
            (EXAMPLE.replace("\n", "\r\n"), 0), (EXAMPLE.replace("\n", "\r"), 0), ("\n" + EXAMPLE, 0), (" " + EXAMPLE, 0),
            (EXAMPLE * 2, 10), (EXAMPLE.replace(" ", "\t"), 0), (EXAMPLE.upper(), 0), ("a" * 5000, 0), ("\n" * 5000, 0),
            (EXAMPLE + "edge 2 a 0\n" * 300, 11), ("signs 2\n" * 600, 1), ("signs 2\n" + "machine 2\n" * 480, 2),
            ("signs 2\nmachine 2\nstarts 0\nends 1\n" + "edge 0 a 1\n" * 400, 5), ("signs 2" + "0" * 4000 + "\n", 0),
        ):
            self.refused(text, line)
            self.assertEqual(self.check(text), line)

    def test_changed_texts(self):
        source = random.Random(5)
        lines = set()
        for pair in [example_pair(), (Machine(1, 1), Machine(1, 2))] + random_pairs(4, 3, 3, 4):
            for text in changed_texts(format_pair(pair), source):
                lines.add(self.check(text))
        self.assertGreater(len(lines), 10)


class FormatRulesTest(TextCase):
    def test_known_rules(self):
        for rules, text in (
            (((), "A"), "else A\n"), (((), "B"), "else B\n"), (((("B", ("b", "")),), "A"), "B: b -\nelse A\n"),
            (((("A", ("",)),), "B"), "A: -\nelse B\n"),
            (((("B", ("b", "aa")), ("A", ("", "ab"))), "B"), RULES),
            (((("B", ("b", "b", "aa", "a")),), "A"), "B: b b aa a\nelse A\n"),
        ):
            self.assertEqual(format_rules(rules), text)
            self.assertEqual(format_rules(rules=rules), text)
            self.assertEqual(parse_rules(text, 2), rules)


class ParseRulesTest(TextCase):
    def test_what_is_written_is_read_back(self):
        for signs in (1, 2, 3):
            for rules in random_rules(40, signs, 6) + [alternating("A", [("a" * 24, "")] * 11), ((), "B")]:
                text = format_rules(rules)
                found = parse_rules(text, signs)
                self.assertEqual(found, rules)
                self.assertIs(require_rules(found, signs), found)
                for more in range(signs, 4):
                    self.assertEqual(parse_rules(text, more), rules)

    def test_too_early_an_end_and_something_behind(self):
        self.refused("", 0, 2)
        self.refused("else A", 0, 2)
        self.refused("B: b", 0, 2)
        self.refused("B: b\n", 1, 2)
        self.refused("B: b\nA: a\n", 2, 2)
        self.refused("B: b\nelse A", 1, 2)
        for rest in (" ", "x", "else A", "A: a", "\t"):
            self.refused(RULES + rest, 3, 2)
        for more in ("\n", "else B\n", "else A\n", "A: a\n", " \n"):
            self.refused(RULES + more, 3, 2)
            self.refused(RULES + more + "x", 3, 2)

    def test_wrong_lines(self):
        wrong = (
            "", "B", "B:", "B: ", " B: a", "B:  a", "B: a ", "B: a  b", "B:a", "b: a", "C: a", "B : a", "B; a", "B:: a", ": a",
            "B: c", "B: a c", "B: d", "B: A", "B: 1", "B: --", "B: a-", "B: -a", "B: ,", "B:\ta", "else", "else ", "else C",
            "else a", " else A", "else  A", "else A ", "else A A", "else: A", "Else A", "elseA", "AB: a", "BB: a", "B a",
        )
        for line in wrong:
            for behind in ("", "\n", "\nelse A\n", "\nA: a\nelse B\n"):
                text = line + behind
                self.refused(text, 0, 2)
            self.refused("A: a\n" + line + "\n", 1, 2)
            self.refused("B: ab -\nA: a\n" + line + "\nelse A\n", 2, 2)

    def test_neighbouring_answers_differ(self):
        self.refused("B: a\nB: b\nelse A\n", 1, 2)
        self.refused("B: a\nA: b\nA: b\nelse B\n", 2, 2)
        self.refused("B: a\nelse B\n", 1, 2)
        self.refused("A: a\nelse A\n", 1, 2)
        self.refused("A: a\nB: b\nelse B\n", 2, 2)
        # A block that could only be followed by a wrong line fits.
        self.refused("A: a\nelse A", 1, 2)
        self.refused("B: b\nA: b\nelse A\nelse B\n", 2, 2)

    def test_eleven_blocks_and_not_twelve(self):
        lines = ["BA"[place % 2] + ": a" for place in range(13)]
        self.assertIs(self.is_read("\n".join(lines[:11] + ["else A"]) + "\n", 1), True)
        self.refused("\n".join(lines[:12] + ["else B"]) + "\n", 11, 1)
        self.refused("\n".join(lines[:13]) + "\n", 11, 1)
        self.refused("\n".join(lines[:11]) + "\n", 11, 1)
        self.refused("\n".join(lines[:11] + ["else B"]) + "\n", 11, 1)

    def test_1_to_24_patterns_of_at_most_24_signs(self):
        for many in (1, 2, 24):
            self.assertIs(self.is_read("B:" + " ab" * many + "\nelse A\n", 2), True)
            self.assertIs(self.is_read("B:" + " -" * many + "\nelse A\n", 2), True)
        for many in (0, 25, 26, 100):
            self.refused("B:" + " ab" * many + "\nelse A\n", 0, 2)
            self.refused("A: a\nB:" + " ab" * many + "\nelse A\n", 1, 2)
        for length in (1, 23, 24):
            self.assertIs(self.is_read("B: " + "b" * length + "\nelse A\n", 2), True)
        for length in (25, 26, 400):
            self.refused("B: " + "b" * length + "\nelse A\n", 0, 2)
            self.refused("B: a\nA: a " + "b" * length + "\nelse B\n", 1, 2)

    def test_signs_beyond_the_signs(self):
        for signs in (1, 2, 3):
            for sign in "abcd":
                text = f"B: a -\nA: a{sign}a\nelse B\n"
                if sign in "abc"[:signs]:
                    self.assertIs(self.is_read(text, signs), True)
                else:
                    self.refused(text, 1, signs)

    def test_other_texts(self):
        for text, line in (
            ("", 0), ("x", 0), ("\n", 0), (" ", 0), (EXAMPLE, 0), (RULES.replace("\n", "\r\n"), 0), ("\n" + RULES, 0),
            (RULES * 2, 3), (RULES.lower(), 0), ("a" * 5000, 0), ("\n" * 5000, 0), ("else A\n" * 700, 1),
            ("B: a\n" * 1000, 1), ("B: a\nA: a\n" * 500, 11), ("B:" + " a" * 2400 + "\n", 0), (RULES.replace(" ", "\t"), 0),
        ):
            self.refused(text, line, 2)
            self.assertEqual(self.check(text, 2), line)

    def test_changed_texts(self):
        source = random.Random(6)
        lines = set()
        for rules in random_rules(12, 2, 4) + [alternating("A", [("a",)] * 11), ((), "B")]:
            for text in changed_texts(format_rules(rules), source):
                for signs in (1, 2, 3):
                    lines.add(self.check(text, signs))
        self.assertLessEqual({None, 0, 1, 2, 3, 4, 11, 12}, lines)


class InterfaceTest(TextCase):
    def test_names_and_places(self):
        functions = {
            "format_pair": ["pair"], "format_rules": ["rules"], "parse_pair": ["text"], "parse_rules": ["text", "signs"],
        }
        self.check_interface(texts, functions)

    def test_arguments_by_name(self):
        self.assertEqual(format_pair(parse_pair(text=EXAMPLE)), EXAMPLE)
        self.assertEqual(parse_rules(signs=2, text=RULES), ((("B", ("b", "aa")), ("A", ("", "ab"))), "B"))
        self.assertEqual(parse_rules("else A\n", signs=1), ((), "A"))
        self.assertEqual(self.raised(ParseError, parse_rules, signs=1, text=RULES).line, 0)
        self.assertEqual(self.raised(ParseError, parse_pair, text=RULES).line, 0)

    def test_examples_of_the_document(self):
        self.assertEqual(format_rules(((("B", ("b", "")),), "A")), "B: b -\nelse A\n")


if __name__ == "__main__":
    unittest.main()
