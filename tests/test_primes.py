"""Points [23] to [25]: prime words and what their counts tell."""

import math
from fractions import Fraction

from skipcounts.errors import InvalidLetters, InvalidList, InvalidNumber, InvalidText, InvalidWord, TooLong, TooMany
from skipcounts.primes import from_prime_form, prime_form, prime_parts, prime_words, told_count
from skipcounts.readings import count, counts
from skipcounts.sums import Sum
from tests import support


def form_worth(form, text):
    """The sum of the fractions of a form, each times the counts in a text of the prime parts of its word."""
    return sum(Fraction(above, below) * math.prod(support.plain_count(part, text) for part in prime_parts(word))
               for word, above, below in form)


def some_form(chance, letters, depth, many):
    words = chance.sample(support.all_words(letters, depth), many)
    form = []
    for word in sorted(words, key=support.text_key):
        number = Fraction(chance.choice([-3, -2, -1, 1, 2, 3]), chance.choice([1, 1, 1, 2, 2, 3, 6]))
        form.append((word, number.numerator, number.denominator))
    return form


def summed_form(form, letters, depth):
    """The sum of a form by its worths at all texts, None if its numbers are not whole."""
    words = support.all_words(letters, depth)
    worths = {text: form_worth(form, text) for text in words}
    terms = []
    for word in words:
        number = sum((-1) ** (len(word) - len(text)) * worth * support.plain_count(text, word)
                     for text, worth in worths.items() if len(text) <= len(word))
        if Fraction(number).denominator != 1:
            return None
        terms.append((word, int(number)))
    return Sum(terms)


class Examples(support.TestCase):
    def test_as_they_stand(self):
        self.assertEqual(
            [prime_words("ab", 4), prime_parts("bab"), prime_parts("abaab"), prime_parts("aa")],
            [['a', 'b', 'ab', 'aab', 'abb', 'aaab', 'aabb', 'abbb'], ['b', 'ab'], ['ab', 'aab'], ['a', 'a']])
        self.assertEqual(
            [prime_form(Sum([("ba", 1)])), prime_form(Sum([("aa", 1)])), prime_form(Sum([("aba", 1)]))],
            [[('ab', -1, 1), ('ba', 1, 1)], [('a', -1, 2), ('aa', 1, 2)],
             [('ab', -1, 1), ('aab', -2, 1), ('aba', 1, 1)]])
        self.assertEqual(
            [from_prime_form([("a", -1, 2), ("aa", 1, 2)]).terms(), from_prime_form([("aa", 1, 2)]),
             told_count("ab", [3, 2, -4], "ba")],
            [[('aa', 1)], None, 10])


class PrimeWords(support.TestCase):
    def test_by_the_definition(self):
        for letters, size in [("a", 5), ("ab", 7), ("abc", 5), ("mxyz", 4), ("b", 0), ("z", 1)]:
            self.assertEqual(prime_words(letters, size), support.plain_primes(letters, size))

    def test_parts_by_the_definition(self):
        chance = support.chance(51)
        texts = support.all_words("ab", 8) + support.all_words("abc", 5)
        texts += [support.some_text(chance, letters, 40) for letters in ["ab", "abcd", support.ALL_LETTERS] * 5]
        for text in texts:
            parts = prime_parts(text)
            self.assertEqual("".join(parts), text)
            for part in parts:
                self.assertTrue(part and all(part < part[cut:] for cut in range(1, len(part))), (text, parts))
            for one, behind in zip(parts, parts[1:]):
                self.assertFalse(one < behind, (text, parts))
        self.assertEqual(prime_parts(""), [])

    def test_bounds(self):
        self.assertEqual(len(prime_words("ab", 12)), len(support.plain_primes("ab", 12)))
        self.assertEqual(prime_words("a", 12), ["a"])
        self.assertEqual(len(prime_words("abc", 7)), 3 + 3 + 8 + 18 + 48 + 116 + 312)
        self.assertEqual(len(prime_words("abcd", 6)), 4 + 6 + 20 + 60 + 204 + 670)
        self.refuses_number(TooMany, 9841, prime_words, "abc", 8)
        self.refuses_number(TooMany, 21845, prime_words, "abcd", 7)
        self.refuses(InvalidNumber, 13, prime_words, "abcd", 13)
        self.refuses(InvalidNumber, -1, prime_words, "abcd", -1)
        self.refuses(InvalidLetters, "ba", prime_words, "ba", 13)
        self.refuses(InvalidText, "A", prime_parts, "A")
        for text in ["a" * 300, "ab" * 150, "b" * 150 + "a" * 150, "a" * 299 + "b", support.ALL_LETTERS * 11]:
            self.in_seconds(prime_parts, text)


class PrimeForms(support.TestCase):
    def is_form(self, form):
        words = [word for word, _, _ in form]
        self.assertEqual(words, sorted(set(words), key=support.text_key))
        for _, above, below in form:
            self.assertNotEqual(above, 0)
            self.assertGreater(below, 0)
            self.assertEqual(math.gcd(above, below), 1)

    def test_has_the_worths_of_the_sum(self):
        chance = support.chance(52)
        for letters, depth in [("a", 5), ("ab", 4), ("abc", 3), ("bdxyz", 2)]:
            for _ in range(6):
                total = support.some_sum(chance, letters, 4, depth)
                form = prime_form(total)
                self.is_form(form)
                for text in support.all_words(letters, depth):
                    self.assertEqual(form_worth(form, text), total.worth(text))
                self.assertEqual(from_prime_form(form), total)

    def test_the_product_of_a_word(self):
        # In the product of a word's prime parts, all words have at most as many letters, and those of as many come
        # ahead of it; its own number tells how often its parts stand among them.
        for word in support.all_words("ab", 5) + support.all_words("abc", 3):
            total = from_prime_form([(word, 1, 1)])
            parts = prime_parts(word)
            number = math.prod(math.factorial(parts.count(part)) for part in set(parts))
            self.assertEqual(total.terms()[-1], (word, number))

    def test_from_forms_against_worths(self):
        chance = support.chance(53)
        none = 0
        for letters, depth, many in [("a", 4, 3), ("ab", 3, 3), ("ab", 3, 1), ("ab", 2, 2), ("abc", 2, 3)]:
            for _ in range(15):
                form = some_form(chance, letters, depth, many)
                expected = summed_form(form, letters, depth)
                self.assertEqual(from_prime_form(form), expected, form)
                none += expected is None
        self.assertGreater(none, 10)

    def test_whole_numbers_are_needed_at_all_words(self):
        self.assertEqual(from_prime_form([("a", 1, 2), ("aa", 1, 2)]), Sum([("a", 1), ("aa", 1)]))
        self.assertIsNone(from_prime_form([("a", 1, 2)]))
        self.assertIsNone(from_prime_form([("", 1, 2)]))
        self.assertIsNone(from_prime_form([("aa", 1, 4)]))
        self.assertIsNone(from_prime_form([("ab", 1, 2), ("ba", 1, 2)]))

    def test_edges(self):
        self.assertEqual(prime_form(Sum([])), [])
        self.assertEqual(from_prime_form([]), Sum([]))
        self.assertEqual(prime_form(Sum([("", -4)])), [("", -4, 1)])
        self.assertEqual(from_prime_form([("", -4, 1)]), Sum([("", -4)]))

    def test_wrong_forms(self):
        for form in [[("a", 1, 1), ("a", 1, 1)], [("b", 1, 1), ("a", 1, 1)], [("aa", 1, 1), ("b", 1, 1)],
                     [("a", 0, 1)], [("a", 1, 0)], [("a", 1, -1)], [("a", 2, 2)], [("a", 2, 4)], [("a", -3, 9)],
                     [("a", True, 1)], [("a", 1, True)], [("a", 1)], [("a", 1, 1, 1)], [["a", 1, 1]], [("A", 1, 1)],
                     [(None, 1, 1)], [(["a"], 1, 1)], (("a", 1, 1),), {"a": 1}, None, "a", [None], Sum([])]:
            self.refuses(InvalidList, form, from_prime_form, form)

    def test_bounds(self):
        self.assertEqual(len(prime_form(Sum([("b" * 8, 1), ("a", 1)]))), 9)
        self.refuses_number(TooMany, 1023, prime_form, Sum([("b" * 9, 1), ("a", 1)]))
        self.refuses_number(TooMany, 1023, from_prime_form, [("a", 1, 1), ("b" * 9, 1, 1)])
        self.refuses_number(TooMany, 1093, prime_form, Sum([("abcabc", 1)]))
        self.refuses_number(TooMany, 1093, from_prime_form, [("abcabc", 1, 1)])
        self.assertEqual(from_prime_form(prime_form(Sum([("abcd", 1), ("e", 1)]))), Sum([("abcd", 1), ("e", 1)]))
        self.refuses_number(TooMany, 1 + 6 + 36 + 216 + 1296, prime_form, Sum([("abcd", 1), ("ef", 1)]))
        wrong = [("b" * 9, 1, 1), ("a", 1, 1)]
        self.refuses(InvalidList, wrong, from_prime_form, wrong)

    def test_within_seconds(self):
        chance = support.chance(54)
        for letters, depth in [("a", 12), ("ab", 8), ("abc", 5), ("abcd", 4), ("abcde", 4), (support.ALL_LETTERS, 2)]:
            for many in [1, 10, 1000]:
                total = support.some_sum(chance, letters, many, depth, support.BIG)
                form = self.in_seconds(prime_form, total)
                self.is_form(form)
                self.assertEqual(self.in_seconds(from_prime_form, form), total)


class ToldCounts(support.TestCase):
    def test_counts_of_texts(self):
        chance = support.chance(55)
        for letters, size in [("a", 6), ("ab", 5), ("abc", 4), ("mxyz", 3)]:
            primes = support.plain_primes(letters, size)
            for _ in range(3):
                text = support.some_text(chance, letters, 10)
                numbers = [count(prime, text) for prime in primes]
                for word in support.all_words(letters, size):
                    self.assertEqual(told_count(letters, numbers, word), count(word, text))

    def test_by_the_prime_form(self):
        chance = support.chance(56)
        for letters, size in [("a", 6), ("ab", 5), ("abc", 3)]:
            primes = support.plain_primes(letters, size)
            numbers = [chance.randint(-9, 9) for _ in primes]
            told = dict(zip(primes, numbers))
            for word in support.all_words(letters, size):
                expected = sum(Fraction(above, below) * math.prod(told[part] for part in prime_parts(each))
                               for each, above, below in prime_form(Sum([(word, 1)])))
                self.assertEqual(told_count(letters, numbers, word), expected)

    def test_equal_counts(self):
        texts = support.all_words("ab", 6)
        for one, other in [("abba", "baab"), ("ab", "ba"), ("abbbab", "babbba")] + list(zip(texts, texts[1:])):
            for depth in [1, 2, 3]:
                primes = support.plain_primes("ab", depth)
                same_primes = all(count(prime, one) == count(prime, other) for prime in primes)
                self.assertEqual(counts("ab", depth, one) == counts("ab", depth, other), same_primes)

    def test_edges(self):
        self.assertEqual(told_count("ab", [], ""), 1)
        self.assertEqual(told_count("a", [-3], "aaa"), -10)
        self.assertEqual(told_count("a", [20], "a" * 12), math.comb(20, 12))
        self.assertEqual(told_count("ab", [5, 7, 1], "b"), 7)
        self.assertEqual(told_count("ab", [5, 7] + [3] * 98, "a"), 5)

    def test_bounds_and_wrong_arguments(self):
        self.refuses_number(TooLong, 1, told_count, "ab", [1], "a")
        self.refuses_number(TooLong, 1, told_count, "ab", [], "b")
        self.refuses_number(TooLong, 2, told_count, "ab", [1, 2], "aa")
        self.assertEqual(told_count("ab", [1] * 71, "a" * 8), 0)
        self.refuses_number(TooLong, 8, told_count, "ab", [1] * 70, "a" * 8)
        self.refuses_number(TooLong, 9, told_count, "ab", [1] * 100, "a" * 9)
        self.refuses_number(TooLong, 12, told_count, "abcd", [1] * 100, "a" * 12)
        self.refuses_number(TooLong, 300, told_count, "abcd", [1] * 100, "a" * 300)
        self.assertEqual(told_count("abcd", [4] * 90, "aaaa"), 1)
        self.refuses_number(TooLong, 4, told_count, "abcd", [4] * 89, "aaaa")
        for wrong in [[1] * 101, [True], [None], (1,), {}, None, ["1"]]:
            self.refuses(InvalidList, wrong, told_count, "ab", wrong, "abc")
        self.refuses(InvalidWord, "abc", told_count, "ab", [], "abc")
        self.refuses(InvalidWord, None, told_count, "ab", [1], None)
        self.refuses(InvalidLetters, "", told_count, "", None, None)

    def test_within_seconds(self):
        chance = support.chance(57)
        for letters, size in [("a", 12), ("ab", 8), ("abc", 5), ("abcd", 4)]:
            numbers = [chance.randint(-support.BIG, support.BIG) for _ in range(100)]
            self.in_seconds(told_count, letters, numbers, letters[-1] * size)
            self.in_seconds(told_count, letters, numbers, support.some_text(chance, letters, size))
