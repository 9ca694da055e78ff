"""Points [20] to [22]: products, chosen sums and quotients."""

import math
from fractions import Fraction

from skipcounts.errors import InvalidNumber, InvalidSum, TooLong, TooMany
from skipcounts.products import chosen, product, quotient
from skipcounts.sums import Sum, plus
from tests import support


def solved(one, other, letters):
    """The quotient by solving for all its numbers with fractions, None if there is none with whole numbers."""
    if one == Sum([]):
        return Sum([])
    degree = one.degree() - other.degree()
    words = support.all_words(letters, degree) if degree >= 0 else []
    texts = support.all_words(letters, one.degree())
    columns = [[support.plain_count(word, text) * other.worth(text) for text in texts] for word in words]
    rows = [[Fraction(column[at]) for column in columns] + [Fraction(one.worth(text))]
            for at, text in enumerate(texts)]
    spots = []
    for place in range(len(words)):
        at = next(at for at in range(len(spots), len(rows)) if rows[at][place] != 0)
        rows[len(spots)], rows[at] = rows[at], rows[len(spots)]
        pivot = rows[len(spots)]
        pivot[:] = [number / pivot[place] for number in pivot]
        for row in rows:
            if row is not pivot and row[place]:
                share = row[place]
                row[:] = [number - share * own for number, own in zip(row, pivot)]
        spots.append(place)
    if any(row[-1] for row in rows[len(spots):]):
        return None
    found = [row[-1] for row in rows[:len(spots)]]
    if any(number.denominator != 1 for number in found):
        return None
    return Sum([(word, int(number)) for word, number in zip(words, found)])


class Examples(support.TestCase):
    def test_as_they_stand(self):
        one, pair = Sum([("a", 1)]), Sum([("ab", 1)])
        self.assertEqual(
            [product(one, pair).terms(), product(pair, pair).terms(), product(one, Sum([])).terms()],
            [[('ab', 1), ('aab', 2), ('aba', 1)],
             [('ab', 1), ('aab', 2), ('abb', 2), ('aabb', 4), ('abab', 2)], []])
        self.assertEqual(
            [chosen(pair, 2).terms(), chosen(Sum([("a", -1)]), 2).terms(), chosen(one, 3).terms()],
            [[('aab', 1), ('abb', 1), ('aabb', 2), ('abab', 1)], [('a', 1), ('aa', 1)], [('aaa', 1)]])
        self.assertEqual(
            [quotient(product(one, pair), one) == pair, quotient(Sum([("aa", 1)]), one),
             quotient(Sum([("aa", 2), ("a", 1)]), one).terms()],
            [True, None, [('a', 1)]])


class Product(support.TestCase):
    def test_worths_at_all_texts(self):
        chance = support.chance(41)
        for letters, depth in [("a", 3), ("ab", 3), ("abc", 2), ("wxyz", 1)]:
            for _ in range(8):
                one, other = support.some_sum(chance, letters, 4, depth), support.some_sum(chance, letters, 4, depth)
                found = product(one, other)
                for text in support.all_words(letters, min(2 * depth, 5)):
                    self.assertEqual(found.worth(text), one.worth(text) * other.worth(text))
                self.assertEqual(found, product(other, one))
                if one.terms() and other.terms():
                    self.assertEqual(found.degree(), one.degree() + other.degree())

    def test_numbers_count_pairs_of_readings(self):
        for one, other in [("ab", "ab"), ("aa", "ab"), ("aba", "ba"), ("", "ab"), ("", ""), ("aa", "aa"), ("a", "bc")]:
            numbers = dict(product(Sum([(one, 1)]), Sum([(other, 1)])).terms())
            for word in support.all_words("abc", len(one) + len(other)):
                self.assertEqual(numbers.get(word, 0), support.covering_pairs(one, other, word), (one, other, word))

    def test_sums_without_terms(self):
        long = Sum([("a" * 12, 1)])
        self.assertEqual(product(Sum([]), long), Sum([]))
        self.assertEqual(product(long, Sum([])), Sum([]))
        self.assertEqual(product(Sum([]), Sum([])), Sum([]))
        self.assertEqual(product(Sum([("", 3)]), long), Sum([("a" * 12, 3)]))

    def test_at_most_12_letters(self):
        self.assertEqual(product(Sum([("a" * 6, 1)]), Sum([("b" * 6, 1)])).degree(), 12)
        self.refuses_number(TooLong, 13, product, Sum([("a" * 7, 1)]), Sum([("b" * 6, 1)]))
        self.refuses_number(TooLong, 25, product, Sum([("a" * 12, 1)]), Sum([("b" * 13, 1)]))
        # No sum without terms is too long, whatever it is multiplied by.
        self.assertEqual(product(Sum([]), Sum([("b" * 20, 1)])), Sum([]))
        self.assertEqual(product(Sum([("b" * 20, 1)]), Sum([])), Sum([]))

    def test_within_seconds(self):
        chance = support.chance(42)
        for letters in ["a", "ab", "abcd", support.ALL_LETTERS]:
            for one_size, other_size in [(6, 6), (1, 11), (4, 8)]:
                one, other = [Sum([(support.some_text(chance, letters, size), chance.randint(-support.BIG, support.BIG))
                                   for _ in range(10)]) for size in [one_size, other_size]]
                found = self.in_seconds(product, one, other)
                text = support.some_text(chance, letters, 300)
                self.assertEqual(self.in_seconds(found.worth, text), one.worth(text) * other.worth(text))


class Chosen(support.TestCase):
    def ways(self, number, many):
        above = math.prod(number - at for at in range(many))
        self.assertEqual(above % math.factorial(many), 0)
        return above // math.factorial(many)

    def test_worths_at_all_texts(self):
        chance = support.chance(43)
        for letters, depth, most in [("a", 2, 4), ("ab", 1, 4), ("ab", 2, 2), ("abc", 1, 3), ("ab", 3, 1)]:
            for many in range(most + 1):
                total = support.some_sum(chance, letters, 4, depth)
                found = chosen(total, many)
                for text in support.all_words(letters, 5 if len(letters) < 3 else 3):
                    self.assertEqual(found.worth(text), self.ways(total.worth(text), many))
                self.assertLessEqual(found.degree(), max(0, total.degree() * many))

    def test_edges(self):
        total = Sum([("ab", 3), ("", -2)])
        self.assertEqual(chosen(total, 0), Sum([("", 1)]))
        self.assertEqual(chosen(total, 1), total)
        self.assertEqual(chosen(Sum([]), 0), Sum([("", 1)]))
        self.assertEqual(chosen(Sum([]), 1), Sum([]))
        self.assertEqual(chosen(Sum([]), 12), Sum([]))
        self.assertEqual(chosen(Sum([("", -1)]), 3), Sum([("", -1)]))
        self.assertEqual(chosen(Sum([("", 5)]), 12), Sum([]))
        self.assertEqual(chosen(Sum([("", 20)]), 12), Sum([("", math.comb(20, 12))]))
        self.assertEqual(chosen(Sum([("a", 1)]), 12), Sum([("a" * 12, 1)]))
        self.assertEqual(chosen(Sum([("a" * 12, 1)]), 1), Sum([("a" * 12, 1)]))

    def test_bounds_and_their_order(self):
        five, six = Sum([(letter, 1) for letter in "abcde"]), Sum([(letter, 1) for letter in "abcdef"])
        self.assertEqual(chosen(five, 5).degree(), 5)
        self.refuses_number(TooMany, 19531, chosen, five, 6)
        self.refuses_number(TooMany, 9331, chosen, six, 5)
        self.assertEqual(chosen(Sum([("a", 1), ("b", 1)]), 11).degree(), 11)
        self.refuses_number(TooMany, 8191, chosen, Sum([("a", 1), ("b", 1)]), 12)
        self.refuses_number(TooLong, 14, chosen, Sum([("ab", 1)]), 7)
        self.refuses_number(TooLong, 14, chosen, Sum([(letter * 2, 1) for letter in "abcdef"]), 7)
        self.refuses_number(TooLong, 13, chosen, Sum([("a" * 13, 1)]), 1)
        self.assertEqual(chosen(Sum([("a" * 13, 1)]), 0), Sum([("", 1)]))
        for wrong in [-1, 13, True, None, "1"]:
            self.refuses(InvalidNumber, wrong, chosen, Sum([("a" * 13, 1)]), wrong)
        self.refuses(InvalidSum, None, chosen, None, 13)

    def test_within_seconds(self):
        chance = support.chance(44)
        for letters, depth, many in [("a", 1, 12), ("a", 12, 1), ("ab", 1, 11), ("ab", 11, 1), ("ab", 5, 2),
                                     ("abc", 1, 7), ("abcd", 1, 5), (support.ALL_LETTERS[:16], 1, 3)]:
            total = support.some_sum(chance, letters, 10, depth, support.BIG)
            found = self.in_seconds(chosen, total, many)
            text = support.some_text(chance, letters, 9)
            self.assertEqual(found.worth(text), self.ways(total.worth(text), many))


class Quotient(support.TestCase):
    def test_multiplying_back(self):
        chance = support.chance(45)
        for letters, depth in [("a", 4), ("ab", 2), ("ab", 3)]:
            for _ in range(25):
                one, other = support.some_sum(chance, letters, 4, depth), support.some_sum(chance, letters, 4, depth)
                if other.terms():
                    self.assertEqual(quotient(product(one, other), other), one)

    def test_against_solving(self):
        chance = support.chance(46)
        none = 0
        for letters, depth in [("a", 3), ("ab", 2)]:
            for _ in range(30):
                one, other = support.some_sum(chance, letters, 3, 1, 3), support.some_sum(chance, letters, 3, depth, 3)
                if not other.terms():
                    continue
                made = product(one, other)
                if chance.random() < 0.7:
                    made = plus(made, support.some_sum(chance, letters, 1, 2, 1))
                found = quotient(made, other)
                self.assertEqual(found, solved(made, other, letters), (made.terms(), other.terms()))
                none += found is None
        self.assertGreater(none, 5)

    def test_edges(self):
        total = Sum([("ab", 6), ("a", 4)])
        self.assertEqual(quotient(Sum([]), total), Sum([]))
        self.assertEqual(quotient(total, Sum([("", 2)])), Sum([("ab", 3), ("a", 2)]))
        self.assertIsNone(quotient(total, Sum([("", 4)])))
        self.assertIsNone(quotient(Sum([("a", 1)]), total))
        self.assertIsNone(quotient(Sum([("b", 1)]), Sum([("a", 1)])))
        self.assertEqual(quotient(total, total), Sum([("", 1)]))
        self.assertEqual(quotient(total, Sum([("ab", -3), ("a", -2)])), Sum([("", -2)]))
        empty = Sum([])
        self.refuses(InvalidSum, empty, quotient, total, empty)
        self.refuses(InvalidSum, None, quotient, None, empty)

    def test_within_seconds(self):
        chance = support.chance(47)
        for one_depth in range(9):
            one = support.some_sum(chance, "ab", 10, one_depth, support.BIG)
            other = plus(support.some_sum(chance, "ab", 9, 8 - one_depth, support.BIG), Sum([("", 1)]))
            if one.terms() and other.terms():
                made = product(one, other)
                self.assertEqual(self.in_seconds(quotient, made, other), one)
                self.in_seconds(quotient, plus(made, Sum([("", 1)])), other)
