"""Points [7] to [9]: readings and counts."""

import math

from skipcounts.errors import InvalidLetters, InvalidList, InvalidNumber, InvalidText, TooMany
from skipcounts.readings import count, counts, is_reading, reading, reading_number, used
from tests import support


class Examples(support.TestCase):
    def test_as_they_stand(self):
        self.assertEqual(
            [count("ab", "aabb"), count("", "ab"), count("aba", "abba"), reading("ab", "aabb", 2),
             reading_number("ab", "aabb", (1, 3)), is_reading("ab", "ab", [0, 1])],
            [4, 1, 2, (1, 2), 3, False])
        self.assertEqual(
            [used("ab", "aabb"), used("aba", "abba"), counts("ab", 2, "aab")],
            [[2, 2, 2, 2], [2, 1, 1, 2], [1, 2, 1, 1, 2, 0, 0]])


class AgainstListing(support.TestCase):
    def pairs(self):
        chance = support.chance(7)
        found = [("", ""), ("", "abc"), ("a", ""), ("ab", "b"), ("aaa", "aaaaaa"), ("xyz", "xyzzy"), ("q", "abc")]
        for letters in ["a", "ab", "abc", "mxyz"]:
            for size in range(9):
                found.append((support.some_text(chance, letters, chance.randint(0, 4)),
                              support.some_text(chance, letters, size)))
        return found

    def test_count(self):
        for word, text in self.pairs():
            self.assertEqual(count(word, text), support.plain_count(word, text), (word, text))

    def test_readings_in_order(self):
        for word, text in self.pairs():
            expected = support.all_readings(word, text)
            self.assertEqual(expected, sorted(expected))
            for number, places in enumerate(expected):
                self.assertEqual(reading(word, text, number), places)
                self.assertEqual(reading_number(word, text, places), number)
                self.assertIs(is_reading(word, text, places), True)
            many = len(expected)
            self.refuses(InvalidNumber, many, reading, word, text, many)

    def test_used(self):
        for word, text in self.pairs():
            readings = support.all_readings(word, text)
            expected = [sum(place in places for places in readings) for place in range(len(text))]
            self.assertEqual(used(word, text), expected, (word, text))

    def test_counts(self):
        for letters, depth in [("a", 5), ("ab", 3), ("acz", 2), ("abcd", 2), ("b", 0)]:
            for text in ["", "a", "abab", "aaaa", "zebra", "cabbages", "dcba"]:
                expected = [support.plain_count(word, text) for word in support.all_words(letters, depth)]
                self.assertEqual(counts(letters, depth, text), expected)


class Edges(support.TestCase):
    def test_the_empty_word_has_one_reading(self):
        for text in ["", "a", "abc"]:
            self.assertEqual(count("", text), 1)
            self.assertEqual(reading("", text, 0), ())
            self.assertEqual(reading_number("", text, ()), 0)
            self.assertIs(is_reading("", text, ()), True)
            self.assertEqual(used("", text), [0] * len(text))
            self.refuses(InvalidNumber, 1, reading, "", text, 1)

    def test_what_is_no_reading(self):
        for value in [(0,), (0, 1, 2), (1, 0), (0, 0), (0, 2), (0, 4), (-4, 1), (0, True), (False, 1), ("0", "1"),
                      (0, None), [0, 1], {0: 1}, "ab", None, 1, (0, 10 ** 29), ((0, 1),), (0, (1,))]:
            self.assertIs(is_reading("ab", "abab", value), False, value)
            self.refuses(InvalidList, value, reading_number, "ab", "abab", value)
        # Places are counted from 0, ascend and stand in the text, even where the letters would fit.
        self.assertIs(is_reading("b", "ab", (-1,)), False)
        self.assertIs(is_reading("bb", "abb", (-1, 2)), False)
        for value in [(0, 0), (1, 0), (1, 1), (0, 2)]:
            self.assertIs(is_reading("aa", "aa", value), False)
            self.refuses(InvalidList, value, reading_number, "aa", "aa", value)
        for value in support.any_values():
            self.assertIs(is_reading("ab", "ab", value), type(value) is tuple and value == (0, 1)
                          and all(type(place) is int for place in value), value)

    def test_a_word_without_readings(self):
        self.refuses(InvalidNumber, 0, reading, "ba", "ab", 0)
        self.assertEqual(count("ba", "ab"), 0)
        self.assertEqual(used("ba", "ab"), [0, 0])


class Bounds(support.TestCase):
    def test_counts_has_at_most_400_words(self):
        for letters, depth, many in [("a", 12, 13), ("ab", 7, 255), ("abc", 5, 364), ("abcd", 4, 341)]:
            self.assertEqual(len(counts(letters, depth, "abcd")), many)
        for letters, depth, many in [("ab", 8, 511), ("abc", 6, 1093), ("abcd", 5, 1365), ("abcd", 12, 22369621)]:
            self.refuses_number(TooMany, many, counts, letters, depth, "abcd")
        self.refuses(InvalidNumber, 13, counts, "a", 13, "a")
        self.refuses(InvalidNumber, -1, counts, "a", -1, "a")

    def test_too_many_is_told_behind_all_others(self):
        self.refuses(InvalidText, "A", counts, "abcd", 12, "A")
        self.refuses(InvalidNumber, 13, counts, "abcd", 13, "A")
        self.refuses(InvalidLetters, "", counts, "", 13, "A")

    def test_great_counts(self):
        text, word = "a" * 300, "a" * 12
        many = math.comb(300, 12)
        self.assertEqual(self.in_seconds(count, word, text), many)
        self.assertEqual(self.in_seconds(reading, word, text, many - 1), tuple(range(288, 300)))
        self.assertEqual(self.in_seconds(reading_number, word, text, tuple(range(288, 300))), many - 1)
        self.assertEqual(self.in_seconds(used, word, text), [math.comb(299, 11)] * 300)
        for letters, depth in [("a", 12), ("ab", 7), ("abc", 5), ("abcd", 4)]:
            chance = support.chance(8)
            found = self.in_seconds(counts, letters, depth, support.some_text(chance, letters, 300))
            self.assertEqual(sum(found[1:1 + len(letters)]), 300)

    def test_great_readings_and_back(self):
        chance = support.chance(9)
        text, word = support.some_text(chance, "ab", 300), support.some_text(chance, "ab", 12)
        many = count(word, text)
        for _ in range(20):
            number = chance.randrange(many)
            places = reading(word, text, number)
            self.assertIs(is_reading(word, text, places), True)
            self.assertEqual(reading_number(word, text, places), number)
