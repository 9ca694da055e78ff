"""Points [10] to [12]: sums."""

import math

from skipcounts.errors import InvalidLetters, InvalidList, InvalidNumber, InvalidSum, InvalidText, TooMany
from skipcounts.sums import Sum, divisor, from_worths, parting, parting_by, plus, times, within, worths
from tests import support


class Examples(support.TestCase):
    def test_as_they_stand(self):
        one, other = Sum([("ab", 1), ("b", 3), ("ab", 1), ("a", 0)]), Sum([("b", 3), ("ab", 2), ("ba", 1)])
        self.assertEqual(
            [one.terms(), one.degree(), one.worth("aab"), one.worth(""), Sum([]).degree()],
            [[('b', 3), ('ab', 2)], 2, 7, 0, -1])
        self.assertEqual(
            [plus(one, times(-1, other)).terms(), within(other, "b").terms(), parting(one, other), parting(one, one)],
            [[('ba', -1)], [('b', 3)], 'ba', None])
        self.assertEqual(
            [parting_by(Sum([("a", 4), ("ab", 2)]), Sum([]), 4), divisor(Sum([("a", 4), ("ab", 6)]))],
            ['ab', 2])
        self.assertEqual(
            [from_worths("ab", 2, [1, 2, 3, 4, 5, 6, 7]).terms(), worths("ab", 1, one)],
            [[('', 1), ('a', 1), ('b', 2), ('aa', 1), ('ab', 1), ('ba', 2), ('bb', 2)], [0, 0, 3]])


class Sums(support.TestCase):
    def test_methods_are_of_the_class_itself(self):
        for name in ["terms", "degree", "worth", "__eq__"]:
            self.assertIn(name, vars(Sum))

    def test_terms_in_the_order_of_texts(self):
        total = Sum([("zz", 1), ("b", 2), ("", 3), ("aaa", 4), ("ab", 5), ("z", 6), ("aa", 7), ("b", -2)])
        self.assertEqual(total.terms(), [("", 3), ("z", 6), ("aa", 7), ("ab", 5), ("zz", 1), ("aaa", 4)])
        self.assertEqual(total.degree(), 3)

    def test_sums_without_terms(self):
        for terms in [[], [("a", 0)], [("ab", 2), ("ab", -2)], [("", 1), ("a", 0), ("", -1)]]:
            total = Sum(terms)
            self.assertEqual(total.terms(), [])
            self.assertEqual(total.degree(), -1)
            self.assertEqual(total.worth("abab"), 0)
            self.assertEqual(total, Sum([]))
        self.assertEqual(Sum([("", 5)]).degree(), 0)
        self.assertEqual(Sum([("", 5)]).worth(""), 5)

    def test_what_is_handed_in_later_changes_nothing(self):
        terms = [("a", 1)]
        total = Sum(terms)
        terms.append(("b", 1))
        self.assertEqual(total.terms(), [("a", 1)])
        total.terms().append(("b", 1))
        self.assertEqual(total.terms(), [("a", 1)])

    def test_wrong_terms(self):
        for terms in [[("a", 1), ("A", 1)], [("a", 1), None], [("a", 1), ("b", "1")], [("a", 1), ("b", False)],
                      [("a", 1), ["b", 1]], [("a", 1), ("b",)], [("a", 1), ("b", 1, 1)], (("a", 1),), {"a": 1},
                      [(None, 1)], [(["a"], 1)], [({}, 1)], "a", Sum([]), [Sum([])], [("a", Sum([]))]]:
            self.refuses(InvalidList, terms, Sum, terms)

    def test_equality(self):
        self.assertEqual(Sum([("a", 1), ("b", 2)]), Sum([("b", 1), ("a", 1), ("b", 1)]))
        self.assertNotEqual(Sum([("a", 1)]), Sum([("a", 2)]))
        self.assertNotEqual(Sum([("a", 1)]), Sum([("b", 1)]))
        for value in support.any_values():
            if not isinstance(value, Sum):
                self.assertIs(Sum([]) == value, False)
                self.assertIs(Sum([]) != value, True)
        self.assertIs(Sum([("a", 1)]) == [("a", 1)], False)

    def test_worth_against_listing(self):
        chance = support.chance(11)
        for letters in ["a", "ab", "abcd", "xyz"]:
            for _ in range(10):
                total = support.some_sum(chance, letters, 6, 4)
                for text in ["", "abc", support.some_text(chance, letters, 8), support.some_text(chance, "abxz", 6)]:
                    self.assertEqual(total.worth(text), support.plain_worth(total, text))

    def test_wrong_texts(self):
        for wrong in [None, "A", 1, ["a"], ("a",), Sum([])]:
            self.refuses(InvalidText, wrong, Sum([("a", 1)]).worth, wrong)

    def test_plus_times_within(self):
        chance = support.chance(12)
        for _ in range(20):
            one, other = support.some_sum(chance, "abc", 5, 3), support.some_sum(chance, "abc", 5, 3)
            number = chance.randint(-3, 3)
            for text in support.all_words("abc", 3):
                self.assertEqual(plus(one, other).worth(text), one.worth(text) + other.worth(text))
                self.assertEqual(times(number, one).worth(text), number * one.worth(text))
            for letters in ["a", "ac", "abc", "abcd", "x"]:
                expected = [term for term in one.terms() if set(term[0]) <= set(letters)]
                self.assertEqual(within(one, letters).terms(), expected)
                same = all(one.worth(text) == other.worth(text) for text in support.all_words(letters, 3))
                self.assertEqual(within(one, letters) == within(other, letters), same)
        self.assertEqual(times(0, Sum([("a", 1)])), Sum([]))

    def test_numbers_of_thirty_figures(self):
        big = support.BIG
        total = Sum([("a", big), ("", -big), ("aa", big)])
        self.assertEqual(total.worth("a" * 300), big * (300 - 1 + 300 * 299 // 2))
        self.assertEqual(times(big, total).terms(), [("", -big * big), ("a", big * big), ("aa", big * big)])
        self.assertEqual(divisor(total), big)


class Partings(support.TestCase):
    def some_pairs(self):
        chance = support.chance(13)
        for letters in ["a", "ab", "abc"]:
            for _ in range(25):
                one = support.some_sum(chance, letters, 4, 3, 4)
                other = plus(one, support.some_sum(chance, letters, 2, 3, 4))
                yield letters, one, other

    def test_parting_is_the_first_text(self):
        for letters, one, other in self.some_pairs():
            expected = next((text for text in support.all_words(letters, 3) if one.worth(text) != other.worth(text)),
                            None)
            self.assertEqual(parting(one, other), expected)
            self.assertEqual(parting(other, one), expected)
            self.assertEqual(expected is None, one == other)
            if expected is not None:
                numbers = dict(one.terms()), dict(other.terms())
                gap = numbers[0].get(expected, 0) - numbers[1].get(expected, 0)
                self.assertEqual(one.worth(expected) - other.worth(expected), gap)

    def test_parting_by_is_the_first_text(self):
        for letters, one, other in self.some_pairs():
            for by in [1, 2, 3, 4, 10 ** 29]:
                expected = next((text for text in support.all_words(letters, 3)
                                 if (one.worth(text) - other.worth(text)) % by != 0), None)
                self.assertEqual(parting_by(one, other, by), expected)
        for wrong in [0, -1, True, None, "1"]:
            self.refuses(InvalidNumber, wrong, parting_by, Sum([]), Sum([]), wrong)

    def test_divisor(self):
        self.assertEqual(divisor(Sum([])), 0)
        self.assertEqual(divisor(Sum([("a", -4)])), 4)
        for letters, one, other in self.some_pairs():
            self.assertEqual(divisor(one), math.gcd(*[one.worth(text) for text in support.all_words(letters, 3)]))


class Worths(support.TestCase):
    def test_worths_against_listing(self):
        chance = support.chance(14)
        for letters, depth in [("a", 4), ("ab", 3), ("acz", 2), ("abcd", 2), ("b", 0)]:
            for _ in range(5):
                total = support.some_sum(chance, letters + "x", 8, 5)
                expected = [support.plain_worth(total, text) for text in support.all_words(letters, depth)]
                self.assertEqual(worths(letters, depth, total), expected)

    def test_from_worths_against_its_formula(self):
        chance = support.chance(15)
        for letters, depth in [("a", 4), ("ab", 3), ("acz", 2), ("abcd", 1), ("b", 0)]:
            words = support.all_words(letters, depth)
            values = [chance.randint(-9, 9) for _ in words]
            expected = []
            for word in words:
                number = 0
                for text, value in zip(words, values):
                    sign = -1 if (len(word) - len(text)) % 2 else 1
                    number += sign * value * support.plain_count(text, word)
                expected.append((word, number))
            found = from_worths(letters, depth, values)
            self.assertEqual(found, Sum(expected))
            self.assertEqual([found.worth(text) for text in words], values)
            self.assertEqual(worths(letters, depth, found), values)

    def test_there_and_back(self):
        chance = support.chance(16)
        for letters, depth in [("a", 12), ("ab", 6), ("abc", 4), ("wxyz", 3)]:
            total = support.some_sum(chance, letters, 20, depth, support.BIG)
            self.assertEqual(from_worths(letters, depth, worths(letters, depth, total)), total)

    def test_wrong_numbers(self):
        for numbers in [[1], [1, 2], [1, 2, 3, 4], (1, 2, 3), [1, 2, True], [1, 2, None], [1, 2, "3"], {}, None]:
            self.refuses(InvalidList, numbers, from_worths, "ab", 1, numbers)


class Bounds(support.TestCase):
    def test_at_most_2000_texts(self):
        total = Sum([("a", 1)])
        for letters, depth, many in [("a", 12, 13), ("ab", 9, 1023), ("abc", 6, 1093), ("abcd", 5, 1365)]:
            self.assertEqual(len(worths(letters, depth, total)), many)
            self.assertEqual(from_worths(letters, depth, [1] * many), Sum([("", 1)]))
        for letters, depth, many in [("ab", 10, 2047), ("abc", 7, 3280), ("abcd", 6, 5461), ("abcd", 12, 22369621)]:
            self.refuses_number(TooMany, many, worths, letters, depth, total)
            self.refuses_number(TooMany, many, from_worths, letters, depth, [1] * 5)

    def test_too_many_stands_ahead_of_the_last_argument(self):
        self.refuses_number(TooMany, 2047, worths, "ab", 10, None)
        self.refuses_number(TooMany, 2047, from_worths, "ab", 10, None)
        self.refuses(InvalidNumber, 13, worths, "abcd", 13, None)
        self.refuses(InvalidNumber, -1, from_worths, "abcd", -1, None)
        self.refuses(InvalidLetters, "ba", worths, "ba", 13, None)
        self.refuses(InvalidSum, None, worths, "ab", 9, None)

    def test_within_seconds(self):
        chance = support.chance(17)
        for letters in ["a", "ab", "abcd", support.ALL_LETTERS]:
            terms = [(support.some_text(chance, letters, 12), chance.randint(-support.BIG, support.BIG))
                     for _ in range(2000)]
            total = self.in_seconds(Sum, terms)
            self.in_seconds(total.worth, support.some_text(chance, letters, 300))
            self.in_seconds(plus, total, total)
            self.in_seconds(times, support.BIG, total)
            self.in_seconds(parting, total, Sum(terms[:-1]))
            self.in_seconds(divisor, total)
        for letters, depth, many in [("a", 12, 13), ("ab", 9, 1023), ("abc", 6, 1093), ("abcd", 5, 1365)]:
            values = [chance.randint(-support.BIG, support.BIG) for _ in range(many)]
            total = self.in_seconds(from_worths, letters, depth, values)
            self.assertEqual(self.in_seconds(worths, letters, depth, total), values)
