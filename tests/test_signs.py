import unittest
from itertools import combinations

from gaprules.errors import NotALog
from gaprules.signs import contains, in_order, least_strings, positions, progress_of, require_log
from tests.helpers import strings_up_to


def places_by_trial(log, pattern):
    """The first way to pick the pattern out of the log, by trying all ways in order."""
    for places in combinations(range(len(log)), len(pattern)):
        if "".join(log[place] for place in places) == pattern:
            return places
    return None


class RequireLogTest(unittest.TestCase):
    def refused(self, value, signs):
        with self.assertRaises(NotALog) as caught:
            require_log(value, signs)
        self.assertIs(caught.exception.value, value)

    def test_strings_of_the_first_signs(self):
        for signs in (1, 2, 3):
            for log in strings_up_to(4, "abc"[:signs]):
                self.assertEqual(require_log(log, signs), log)

    def test_empty_and_long_strings(self):
        for signs in (1, 2, 3):
            self.assertEqual(require_log("", signs), "")
            long = "abc"[:signs] * 3000
            self.assertIs(require_log(long, signs), long)
            self.refused(long + "d", signs)

    def test_signs_that_are_not_among_the_first(self):
        for signs in (1, 2):
            for log in strings_up_to(4):
                if any(letter not in "abc"[:signs] for letter in log):
                    with self.subTest((log, signs)):
                        self.refused(log, signs)

    def test_other_letters_and_capitals(self):
        for value in ("d", "A", "aB", "abC", " ", "a b", "a\n", "\n", "aab-", "0", "1", "\u00e4", "\u0430"):
            for signs in (1, 2, 3):
                with self.subTest((value, signs)):
                    self.refused(value, signs)

    def test_values_that_are_no_strings(self):
        values = (0, 1, -5, 10 ** 29, True, False, None, (), ("a",), ("a", "b"), [], ["a"], {}, {"a": "b"}, {"a": 1})
        for value in values:
            for signs in (1, 2, 3):
                with self.subTest((value, signs)):
                    self.refused(value, signs)

    def test_arguments_by_name(self):
        self.assertEqual(require_log(signs=2, value="ab"), "ab")
        self.assertEqual(require_log("ab", signs=2), "ab")
        with self.assertRaises(NotALog) as caught:
            require_log(signs=1, value="ab")
        self.assertEqual(caught.exception.value, "ab")

    def test_a_refused_value_is_not_modified(self):
        value = ["a", ["b"]]
        self.refused(value, 2)
        self.assertEqual(value, ["a", ["b"]])


class ContainsTest(unittest.TestCase):
    def check(self, log, pattern):
        places = places_by_trial(log, pattern)
        self.assertEqual(positions(log, pattern), places)
        self.assertIs(contains(log, pattern), places is not None)
        most = max(many for many in range(len(pattern) + 1) if places_by_trial(log, pattern[:many]) is not None)
        self.assertEqual(progress_of(log, pattern), most)

    def test_all_short_logs_and_patterns(self):
        for log in strings_up_to(5):
            for pattern in strings_up_to(3):
                with self.subTest((log, pattern)):
                    self.check(log, pattern)

    def test_picked_patterns_and_their_changes(self):
        for log in ("abcabcabc", "aaabbbccc", "cbacbaab", "bbabbacca", "accbabcab"):
            for many in (2, 4, len(log)):
                for places in list(combinations(range(len(log)), many))[::7]:
                    picked = "".join(log[place] for place in places)
                    self.assertTrue(contains(log, picked))
                    middle = many // 2
                    for sign in "abc":
                        self.check(log, picked[:middle] + sign + picked[middle:])
                        self.check(log, picked[:middle] + sign + picked[middle + 1:])
                    self.check(log, picked[1] + picked[0] + picked[2:])
                    self.check(log, picked[:-2] + picked[-1] + picked[-2])

    def test_empty_pattern_and_empty_log(self):
        for log in ("", "a", "cabbc"):
            self.assertIs(contains(log, ""), True)
            self.assertEqual(positions(log, ""), ())
            self.assertEqual(progress_of(log, ""), 0)
        self.assertIs(contains("", "a"), False)
        self.assertIsNone(positions("", "a"))
        self.assertEqual(progress_of("", "a"), 0)

    def test_pattern_that_is_longer_than_the_log(self):
        self.assertIs(contains("ab", "abb"), False)
        self.assertIsNone(positions("ab", "aba"))
        self.assertEqual(progress_of("ab", "abab"), 2)

    def test_each_position_is_as_early_as_possible(self):
        self.assertEqual(positions("aabab", "ab"), (0, 2))
        self.assertEqual(positions("bbaabb", "ab"), (2, 4))
        self.assertEqual(positions("ccabcab", "cb"), (0, 3))
        self.assertIs(type(positions("ab", "b")), tuple)

    def test_progress_goes_on_past_a_gap(self):
        self.assertEqual(progress_of("cccab", "ab"), 2)
        self.assertEqual(progress_of("ba", "ab"), 1)
        self.assertEqual(progress_of("bc", "ab"), 0)

    def test_long_log(self):
        log = "ab" * 200
        self.assertEqual(positions(log, "b" * 24), tuple(range(1, 48, 2)))
        self.assertEqual(progress_of(log, "a" * 24), 24)
        self.assertIs(contains(log, "a" * 24 + "c"), False)

    def test_examples_of_the_document(self):
        self.assertEqual((contains("cabbc", "abc"), contains("cabbc", "ba")), (True, False))
        self.assertIs(contains("cabbc", ""), True)
        self.assertEqual(positions("cabbc", "bc"), (2, 4))
        self.assertEqual(progress_of("cabbc", "bca"), 2)

    def test_arguments_by_name(self):
        self.assertIs(contains(log="ab", pattern="b"), True)
        self.assertIs(contains(pattern="ab", log="b"), False)
        self.assertEqual(positions(log="cab", pattern="b"), (2,))
        self.assertEqual(positions(pattern="b", log="cab"), (2,))
        self.assertEqual(progress_of(log="ab", pattern="bb"), 1)
        self.assertEqual(progress_of(pattern="bb", log="ab"), 1)


class InOrderTest(unittest.TestCase):
    def test_by_length_then_by_alphabet(self):
        self.assertEqual(in_order(("b", "aa", "a", "", "ab", "c", "ba", "aac")),
                         ("", "a", "b", "c", "aa", "ab", "ba", "aac"))

    def test_shuffled_strings_come_back_in_order(self):
        expected = strings_up_to(3)
        for step in (1, 3, 7, 11, 13, 39):
            shuffled = [expected[(place * step) % len(expected)] for place in range(len(expected))]
            if len(set(shuffled)) == len(expected):
                self.assertEqual(in_order(shuffled), tuple(expected))
        self.assertEqual(in_order(expected[::-1]), tuple(expected))

    def test_each_once(self):
        self.assertEqual(in_order(["ab", "b", "ab", "b", "b", ""]), ("", "b", "ab"))
        self.assertEqual(in_order(("", "")), ("",))

    def test_nothing(self):
        self.assertEqual(in_order([]), ())
        self.assertEqual(in_order(()), ())

    def test_tuple_comes_back_and_the_list_is_not_modified(self):
        strings = ["ba", "a", "ba"]
        answer = in_order(strings)
        self.assertIs(type(answer), tuple)
        self.assertEqual(strings, ["ba", "a", "ba"])
        self.assertEqual(in_order(strings=strings), answer)
        strings.append("")
        self.assertEqual(answer, ("a", "ba"))
        self.assertEqual(in_order(strings), ("", "a", "ba"))


class LeastStringsTest(unittest.TestCase):
    def expected(self, strings):
        least = [one for one in set(strings)
                 if all(one == other or places_by_trial(one, other) is None for other in strings)]
        return tuple(sorted(least, key=lambda text: (len(text), text)))

    def test_against_the_definition(self):
        pool = strings_up_to(4)
        for width in (2, 3, 5, 9):
            for begin in range(len(pool)):
                strings = [pool[(begin * 5 + place * (begin + 2)) % len(pool)] for place in range(width)]
                with self.subTest(strings):
                    self.assertEqual(least_strings(strings), self.expected(strings))
                    self.assertEqual(least_strings(tuple(strings[::-1])), self.expected(strings))

    def test_strings_of_one_length_all_stay(self):
        self.assertEqual(least_strings(("ba", "ab", "cc")), ("ab", "ba", "cc"))

    def test_equal_strings_count_once(self):
        self.assertEqual(least_strings(["ab", "ab"]), ("ab",))
        self.assertEqual(least_strings(["", ""]), ("",))

    def test_the_empty_string_is_in_all(self):
        self.assertEqual(least_strings(("a", "", "abc")), ("",))

    def test_a_gap_counts(self):
        self.assertEqual(least_strings(["cabc", "cc"]), ("cc",))
        self.assertEqual(least_strings(["acb", "ab", "ba"]), ("ab", "ba"))

    def test_chains_of_contained_strings(self):
        self.assertEqual(least_strings(["abcabc", "abca", "aba", "ab"]), ("ab",))

    def test_nothing(self):
        self.assertEqual(least_strings([]), ())
        self.assertEqual(least_strings(()), ())

    def test_example_of_the_document(self):
        self.assertEqual(least_strings(("ab", "b", "aab", "aa")), ("b", "aa"))

    def test_tuple_comes_back_and_the_list_is_not_modified(self):
        strings = ["ba", "a", "b", "b"]
        answer = least_strings(strings=strings)
        self.assertIs(type(answer), tuple)
        self.assertEqual(answer, ("a", "b"))
        self.assertEqual(strings, ["ba", "a", "b", "b"])
        strings.append("")
        self.assertEqual(least_strings(strings), ("",))


if __name__ == "__main__":
    unittest.main()
