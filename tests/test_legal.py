"""Points [29] to [31]: legal tables and commutators."""

from skipcounts.errors import InvalidLetters, InvalidList, InvalidNumber, InvalidTable, InvalidWord, TooMany
from skipcounts.legal import at_primes, commutator, commutator_form, from_primes, is_legal
from skipcounts.tables import Table, joined, power, table_of, undone
from tests import support

SHAPES = [("a", 5), ("ab", 3), ("ab", 4), ("abc", 3), ("mxyz", 2), ("ab", 1), ("ab", 0)]


def plain_is_legal(table):
    """By the definition, with the pairs of readings that make the numbers of a product."""
    letters, depth = table.letters(), table.depth()
    words = support.all_words(letters, depth)
    for one in words[1:]:
        for other in words[1:]:
            if len(one) + len(other) <= depth:
                made = sum(support.covering_pairs(one, other, word) * table.number(word) for word in words
                           if len(word) <= len(one) + len(other))
                if made != table.number(one) * table.number(other):
                    return False
    return True


class Examples(support.TestCase):
    def test_as_they_stand(self):
        odd = from_primes("ab", 2, [1, 1, 5])
        self.assertEqual(
            [odd.numbers(), is_legal(odd), is_legal(Table("ab", 2, [1, 2, 2, 1, 3, 2, 1])),
             at_primes(table_of("ab", 3, "abba"))],
            [[1, 1, 1, 0, 5, -4, 0], True, False, [2, 2, 2, 0, 1]])
        self.assertEqual(
            [commutator("ab"), commutator("aab"), commutator_form(odd), commutator_form(table_of("ab", 2, "ba"))],
            ['abAB', 'aabABAbaBA', [('a', 1), ('b', 1), ('ab', 4)], [('a', 1), ('b', 1), ('ab', -1)]])


class Legal(support.TestCase):
    def test_by_the_definition(self):
        chance = support.chance(71)
        for letters, depth in [("a", 4), ("ab", 2), ("ab", 3), ("abc", 2), ("ab", 1), ("ab", 0)]:
            legal = table_of(letters, depth, support.some_text(chance, letters + letters.upper(), 6))
            self.assertIs(is_legal(legal), True)
            self.assertTrue(plain_is_legal(legal))
            words = support.all_words(letters, depth)
            for _ in range(10):
                numbers = legal.numbers()
                for _ in range(chance.randint(1, 2)):
                    if len(words) > 1:
                        numbers[chance.randrange(1, len(words))] += chance.choice([-1, 1])
                table = Table(letters, depth, numbers)
                self.assertEqual(is_legal(table), plain_is_legal(table), numbers)

    def test_one_number_wrong_at_any_word(self):
        for letters, depth in [("ab", 3), ("a", 5)]:
            legal = table_of(letters, depth, (letters + letters.upper()) * 2 + letters)
            primes = support.plain_primes(letters, depth)
            for at, word in enumerate(support.all_words(letters, depth)):
                if word == "" or (word in primes and len(word) == depth):
                    continue
                numbers = legal.numbers()
                numbers[at] += 1
                table = Table(letters, depth, numbers)
                self.assertEqual(is_legal(table), plain_is_legal(table), word)
                self.assertIs(is_legal(table), False, word)

    def test_what_is_made_of_legal_tables_is_legal(self):
        for letters, depth in SHAPES:
            one = table_of(letters, depth, letters + letters.upper()[::-1] + letters[0])
            other = table_of(letters, depth, letters[::-1])
            for table in [joined(one, other), undone(one), power(one, 10 ** 29), power(other, -7)]:
                self.assertIs(is_legal(table), True)


class FromPrimes(support.TestCase):
    def test_there_and_back(self):
        chance = support.chance(72)
        for letters, depth in SHAPES:
            primes = support.plain_primes(letters, depth)
            for most in [2, 50, support.BIG]:
                numbers = [chance.randint(-most, most) for _ in primes]
                table = from_primes(letters, depth, numbers)
                self.assertEqual((table.letters(), table.depth()), (letters, depth))
                self.assertEqual([table.number(prime) for prime in primes], numbers)
                self.assertEqual(at_primes(table), numbers)
                self.assertIs(is_legal(table), True)
                if len(table.numbers()) < 20 and most == 2:
                    self.assertTrue(plain_is_legal(table))
            signed = table_of(letters, depth, support.some_text(chance, letters + letters.upper(), 9))
            self.assertEqual(from_primes(letters, depth, at_primes(signed)), signed)

    def test_at_primes_of_any_table(self):
        table = Table("ab", 2, [1, 10, 20, 30, 40, 50, 60])
        self.assertEqual(at_primes(table), [10, 20, 40])
        self.assertEqual(at_primes(Table("ab", 0, [1])), [])

    def test_wrong_arguments(self):
        for wrong in [[], [1, 2], [1, 2, 3, 4], [1, 2, True], [1, 2, None], (1, 2, 3), {}, None]:
            self.refuses(InvalidList, wrong, from_primes, "ab", 2, wrong)
        self.refuses_number(TooMany, 511, from_primes, "ab", 8, None)
        self.refuses(InvalidNumber, 13, from_primes, "ab", 13, None)
        self.refuses(InvalidLetters, "ba", from_primes, "ba", 13, None)
        for wrong in [None, [1], {}, "a", True]:
            self.refuses(InvalidTable, wrong, is_legal, wrong)
            self.refuses(InvalidTable, wrong, at_primes, wrong)


class Commutators(support.TestCase):
    def plain_commutator(self, word):
        if len(word) == 1:
            return word
        ends = [word[cut:] for cut in range(1, len(word))]
        primes = support.plain_primes("".join(sorted(set(word))), len(word))
        end = max((each for each in ends if each in primes), key=len)
        m, n = self.plain_commutator(word[:-len(end)]), self.plain_commutator(end)
        return m + n + m[::-1].swapcase() + n[::-1].swapcase()

    def test_by_the_definition(self):
        for letters, size in [("ab", 6), ("abc", 5), ("wxyz", 4), ("q", 1)]:
            for word in support.plain_primes(letters, size):
                self.assertEqual(commutator(word), self.plain_commutator(word))
        self.assertEqual(commutator("abcdef"), self.plain_commutator("abcdef"))

    def test_wrong_words(self):
        for wrong in ["", "aa", "ba", "abab", "A", "abcdefg", "aaaaaab", None, 1, True, ["a"], ("a",), {}]:
            self.refuses(InvalidWord, wrong, commutator, wrong)

    def test_forms_by_multiplying_out(self):
        chance = support.chance(73)
        for letters, depth in SHAPES + [("ab", 6)]:
            primes = support.plain_primes(letters, depth)
            for most in [1, 9, support.BIG]:
                form = [(word, chance.randint(-most, most)) for word in primes if chance.random() < 0.7]
                form = [(word, many) for word, many in form if many != 0]
                table = table_of(letters, depth, "")
                for word, many in form:
                    table = joined(table, power(table_of(letters, depth, commutator(word)), many))
                self.assertEqual(commutator_form(table), form)
                numbers = [chance.randint(-most, most) for _ in primes]
                table = from_primes(letters, depth, numbers)
                made = table_of(letters, depth, "")
                for word, many in commutator_form(table):
                    self.assertNotEqual(many, 0)
                    made = joined(made, power(table_of(letters, depth, commutator(word)), many))
                self.assertEqual(made, table)

    def test_none_if_not_legal(self):
        chance = support.chance(74)
        for letters, depth in [("a", 4), ("ab", 2), ("ab", 3), ("abc", 2)]:
            for _ in range(12):
                numbers = table_of(letters, depth, support.some_text(chance, letters + letters.upper(), 6)).numbers()
                numbers[chance.randrange(1, len(numbers))] += chance.choice([-1, 1])
                table = Table(letters, depth, numbers)
                self.assertEqual(commutator_form(table) is None, not plain_is_legal(table))

    def test_edges(self):
        self.assertEqual(commutator_form(Table("ab", 0, [1])), [])
        self.assertEqual(commutator_form(table_of("ab", 6, "")), [])
        self.assertEqual(commutator_form(table_of("a", 6, "aaa")), [("a", 3)])
        deep = table_of("a", 7, "a")
        self.refuses(InvalidTable, deep, commutator_form, deep)
        for wrong in [None, [1], {}, "a", True]:
            self.refuses(InvalidTable, wrong, commutator_form, wrong)


class Limits(support.TestCase):
    def test_within_seconds(self):
        chance = support.chance(75)
        for letters, depth in [("a", 12), ("ab", 7), ("abc", 5), ("abcd", 4)]:
            primes = support.plain_primes(letters, depth)
            numbers = [chance.randint(-support.BIG, support.BIG) for _ in primes]
            table = self.in_seconds(from_primes, letters, depth, numbers)
            self.assertIs(self.in_seconds(is_legal, table), True)
            self.assertEqual(self.in_seconds(at_primes, table), numbers)
            if depth <= 6:
                self.in_seconds(commutator_form, table)
        numbers = [chance.randint(-support.BIG, support.BIG) for _ in support.plain_primes("ab", 6)]
        self.in_seconds(commutator_form, from_primes("ab", 6, numbers))
