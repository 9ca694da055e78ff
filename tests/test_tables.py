"""Points [26] to [28]: tables."""

from fractions import Fraction

from skipcounts.errors import (InvalidLetters, InvalidList, InvalidNumber, InvalidTable, InvalidText, InvalidWord,
                               TooMany, Unlike)
from skipcounts.sums import Sum
from skipcounts.tables import (Table, first_difference, greatest_root, joined, power, root, table_of, table_round,
                               undone)
from tests import support

SHAPES = [("a", 4), ("ab", 3), ("ab", 2), ("abc", 2), ("mxyz", 1), ("ab", 0)]


def some_table(chance, letters, depth, most=4):
    """Any table, also one that is no table of a text."""
    many = len(support.all_words(letters, depth))
    return Table(letters, depth, [1] + [chance.randint(-most, most) for _ in range(many - 1)])


def plain_power(table, many):
    letters, depth = table.letters(), table.depth()
    numbers = table_of(letters, depth, "").numbers()
    for _ in range(many):
        numbers = support.plain_joined(letters, depth, numbers, table.numbers())
    return Table(letters, depth, numbers)


def plain_root(table, many):
    """The root by its definition, word by word with fractions, None if a number is not whole."""
    letters, depth = table.letters(), table.depth()
    words = support.all_words(letters, depth)
    numbers = dict(zip(words, table.numbers()))
    found = {word: Fraction(0) for word in words}
    found[""] = Fraction(1)
    for word in words[1:]:
        size = len(word)
        made = [Fraction(1)] + [Fraction(0)] * size
        for _ in range(many):
            made = [sum(made[cut] * found[word[cut:end]] for cut in range(end + 1)) for end in range(size + 1)]
        found[word] = (numbers[word] - made[size]) / many
    if any(number.denominator != 1 for number in found.values()):
        return None
    return Table(letters, depth, [int(found[word]) for word in words])


class Examples(support.TestCase):
    def test_as_they_stand(self):
        one = table_of("ab", 2, "ab")
        self.assertEqual(
            [one.numbers(), table_of("ab", 2, "aB").numbers(), undone(one).numbers(),
             undone(one) == table_of("ab", 2, "BA"), joined(one, one) == table_of("ab", 2, "abab")],
            [[1, 1, 1, 0, 1, 0, 0], [1, 1, -1, 0, -1, 0, 1], [1, -1, -1, 1, 0, 1, 1], True, True])
        self.assertEqual(
            [power(one, 10 ** 20).number("ba") == 10 ** 20 * (10 ** 20 - 1) // 2,
             first_difference(one, table_of("ab", 2, "ba"))],
            [True, 'ab'])
        self.assertEqual(
            [root(power(one, 6), 3) == power(one, 2), root(one, 2), greatest_root(power(one, 6))[1],
             greatest_root(table_of("ab", 2, "aabb"))[1], greatest_root(table_of("ab", 1, "aabb"))[1]],
            [True, None, 6, 1, 2])
        self.assertEqual(
            [table_round(table_of("a", 2, "a"), 2), table_round(table_of("ab", 2, "aabb"), 2),
             table_round(table_of("ab", 2, "abAB"), 6)],
            [4, 2, 6])


class Tables(support.TestCase):
    def test_methods_are_of_the_class_itself(self):
        for name in ["letters", "depth", "numbers", "number", "__eq__"]:
            self.assertIn(name, vars(Table))

    def test_what_was_given(self):
        numbers = [1, 5, -2, 0, 7, 7, -1]
        table = Table("ab", 2, numbers)
        self.assertEqual((table.letters(), table.depth(), table.numbers()), ("ab", 2, numbers))
        for word, number in zip(support.all_words("ab", 2), numbers):
            self.assertEqual(table.number(word), number)
        numbers[1] = 9
        table.numbers()[1] = 8
        self.assertEqual(table.number("a"), 5)

    def test_number_of_other_words(self):
        table = Table("ab", 2, [1, 5, -2, 0, 7, 7, -1])
        for wrong in ["c", "abc", "aaa", "A", "ac", None, 1, True, ["a"], ("a",), {}, table]:
            self.refuses(InvalidWord, wrong, table.number, wrong)

    def test_equality(self):
        table = Table("ab", 1, [1, 2, 3])
        self.assertEqual(table, Table("ab", 1, [1, 2, 3]))
        self.assertNotEqual(table, Table("ab", 1, [1, 2, 4]))
        self.assertNotEqual(table, Table("ac", 1, [1, 2, 3]))
        self.assertNotEqual(Table("a", 0, [1]), Table("b", 0, [1]))
        self.assertNotEqual(Table("a", 0, [1]), Table("ab", 0, [1]))
        for value in support.any_values() + [[1, 2, 3], Sum([])]:
            if not isinstance(value, Table):
                self.assertIs(table == value, False)
                self.assertIs(table != value, True)

    def test_wrong_numbers(self):
        for numbers in [[], [1, 2], [1, 2, 3, 4], [0, 2, 3], [2, 2, 3], [True, 2, 3], [1, True, 3], [1, None, 3],
                        (1, 2, 3), {}, None, "abc", [1, "2", 3]]:
            self.refuses(InvalidList, numbers, Table, "ab", 1, numbers)

    def test_table_of_a_text_has_its_counts(self):
        chance = support.chance(61)
        for letters, depth in SHAPES:
            for size in [0, 1, 5, 8]:
                text = support.some_text(chance, letters, size)
                expected = [support.plain_count(word, text) for word in support.all_words(letters, depth)]
                self.assertEqual(table_of(letters, depth, text).numbers(), expected)

    def test_table_of_signs_is_joined(self):
        chance = support.chance(62)
        for letters, depth in SHAPES:
            words = support.all_words(letters, depth)
            for size in [0, 1, 2, 5]:
                signed = support.some_text(chance, letters + letters.upper(), size)
                numbers = [1] + [0] * (len(words) - 1)
                for sign in signed:
                    if sign.islower():
                        own = [int(word in ("", sign)) for word in words]
                    else:
                        own = [(-1) ** len(word) if word == sign.lower() * len(word) else 0 for word in words]
                    numbers = support.plain_joined(letters, depth, numbers, own)
                self.assertEqual(table_of(letters, depth, signed), Table(letters, depth, numbers))

    def test_wrong_signed_texts(self):
        self.assertEqual(table_of("ab", 1, "aB" * 150).numbers(), [1, 150, -150])
        for wrong in ["aB" * 150 + "a", "c", "C", "a b", "1", "a\n", None, 1, ["a"], ("a",), {}, Sum([])]:
            self.refuses(InvalidText, wrong, table_of, "ab", 1, wrong)

    def test_bounds_and_their_order(self):
        for letters, depth, many in [("a", 12, 13), ("ab", 7, 255), ("abc", 5, 364), ("abcd", 4, 341)]:
            self.assertEqual(len(table_of(letters, depth, letters).numbers()), many)
            self.assertEqual(Table(letters, depth, [1] * many).depth(), depth)
        for letters, depth, many in [("ab", 8, 511), ("abc", 6, 1093), ("abcd", 5, 1365), ("abcd", 12, 22369621)]:
            self.refuses_number(TooMany, many, table_of, letters, depth, None)
            self.refuses_number(TooMany, many, Table, letters, depth, None)
        for wrong in [-1, 13, True, None, "1"]:
            self.refuses(InvalidNumber, wrong, table_of, "abcd", wrong, None)
            self.refuses(InvalidNumber, wrong, Table, "abcd", wrong, None)
        self.refuses(InvalidLetters, "ba", table_of, "ba", 13, None)
        self.refuses(InvalidLetters, "ba", Table, "ba", 13, None)


class Joined(support.TestCase):
    def test_joined_undone_and_powers(self):
        chance = support.chance(63)
        for letters, depth in SHAPES:
            empty = table_of(letters, depth, "")
            for _ in range(5):
                one, other = some_table(chance, letters, depth), some_table(chance, letters, depth)
                expected = support.plain_joined(letters, depth, one.numbers(), other.numbers())
                self.assertEqual(joined(one, other).numbers(), expected)
                self.assertEqual(joined(one, undone(one)), empty)
                self.assertEqual(joined(undone(one), one), empty)
                for many in range(6):
                    self.assertEqual(power(one, many), plain_power(one, many))
                    self.assertEqual(power(one, -many), plain_power(undone(one), many))

    def test_texts_behind_each_other_and_opposites(self):
        chance = support.chance(64)
        for letters, depth in SHAPES:
            signs = letters + letters.upper()
            one, other = support.some_text(chance, signs, 6), support.some_text(chance, signs, 5)
            table = table_of(letters, depth, one)
            self.assertEqual(joined(table, table_of(letters, depth, other)), table_of(letters, depth, one + other))
            self.assertEqual(undone(table), table_of(letters, depth, one[::-1].swapcase()))
            self.assertEqual(power(table, 3), table_of(letters, depth, one * 3))

    def test_great_powers(self):
        table = table_of("ab", 3, "abA")
        for many in [10 ** 29, -10 ** 29]:
            self.assertEqual(joined(power(table, many), table), power(table, many + 1))
            self.assertEqual(undone(power(table, many)), power(table, -many))
        for wrong in [True, None, "1", [1]]:
            self.refuses(InvalidNumber, wrong, power, table, wrong)

    def test_first_difference(self):
        chance = support.chance(65)
        for letters, depth in SHAPES:
            words = support.all_words(letters, depth)
            for _ in range(8):
                one, other = some_table(chance, letters, depth, 1), some_table(chance, letters, depth, 1)
                expected = next((word for word in words if one.number(word) != other.number(word)), None)
                self.assertEqual(first_difference(one, other), expected)
                self.assertIsNone(first_difference(one, Table(letters, depth, one.numbers())))

    def test_unlike_tables(self):
        one = table_of("ab", 2, "ab")
        for other in [table_of("ab", 1, "ab"), table_of("ac", 2, ""), table_of("a", 2, "")]:
            for call in [joined, first_difference]:
                self.refuses(Unlike, other, call, one, other)
                self.refuses(Unlike, one, call, other, one)
                self.refuses(InvalidTable, None, call, None, other)
                self.refuses(InvalidTable, "ab", call, one, "ab")


class Roots(support.TestCase):
    def test_against_fractions(self):
        chance = support.chance(66)
        found, none = 0, 0
        for letters, depth in [("a", 4), ("ab", 2), ("ab", 3), ("abc", 1), ("a", 0)]:
            for _ in range(6):
                base = some_table(chance, letters, depth, 3)
                if chance.random() < 0.3:
                    # Numbers with many divisors, also where there is no root.
                    base = Table(letters, depth, [1] + [12 * number for number in base.numbers()[1:]])
                for taken in [1, 2, 4, 6]:
                    table = power(base, taken)
                    for many in [1, 2, 3, 4, 6, 12]:
                        expected = plain_root(table, many)
                        self.assertEqual(root(table, many), expected, (table.numbers(), many))
                        found += expected is not None
                        none += expected is None
        self.assertGreater(found, 50)
        self.assertGreater(none, 50)

    def test_greatest_root_against_trying(self):
        chance = support.chance(67)
        for letters, depth in [("a", 4), ("ab", 2), ("ab", 3), ("abc", 1), ("a", 3)]:
            for _ in range(5):
                base = some_table(chance, letters, depth, 2)
                if chance.random() < 0.5:
                    factor = chance.choice([2, 4, 6, 8])
                    base = Table(letters, depth, [1] + [factor * number for number in base.numbers()[1:]])
                table = power(base, chance.choice([1, 2, 3, 4, 5, 7]))
                if table == table_of(letters, depth, ""):
                    continue
                kept, many = greatest_root(table)
                self.assertEqual(power(kept, many), table)
                have = [number for number in range(1, 61) if root(table, number) is not None]
                self.assertEqual(have, [number for number in range(1, 61) if many % number == 0])

    def test_great_numbers(self):
        for letters, depth in [("ab", 3), ("a", 12), ("abcd", 2)]:
            base = table_of(letters, depth, letters + "A" + letters[-1])
            kept = greatest_root(base)[1]
            for many in [2 ** 99, 10 ** 29, 11 ** 28, 10 ** 29 + 319, support.BIG]:
                self.assertEqual(root(power(base, many), many), base)
                self.assertEqual(greatest_root(power(base, many))[1], kept * many)
                self.assertEqual(greatest_root(power(base, -many))[1], kept * many)
                self.assertIsNone(root(base, many))

    def test_edges(self):
        for letters, depth in SHAPES:
            empty = table_of(letters, depth, "")
            self.assertEqual(greatest_root(empty), (empty, 0))
            for many in [1, 2, 10 ** 29]:
                self.assertEqual(root(empty, many), empty)
        self.assertEqual(greatest_root(Table("a", 0, [1])), (Table("a", 0, [1]), 0))
        table = table_of("ab", 2, "ab")
        self.assertEqual(root(table, 1), table)
        self.assertEqual(greatest_root(table), (table, 1))
        for wrong in [0, -1, True, None, "1"]:
            self.refuses(InvalidNumber, wrong, root, table, wrong)


class Rounds(support.TestCase):
    def test_against_trying(self):
        chance = support.chance(68)
        for letters, depth in [("a", 4), ("ab", 2), ("ab", 3), ("abc", 1), ("a", 5)]:
            for _ in range(3):
                table = some_table(chance, letters, depth)
                for by in [2, 3, 4, 5, 6, 8, 9, 12]:
                    numbers, many = table.numbers(), 1
                    while any(number % by for number in numbers[1:]):
                        numbers = support.plain_joined(letters, depth, numbers, table.numbers())
                        numbers = [number % by for number in numbers]
                        many += 1
                    self.assertEqual(table_round(table, by), many, (table.numbers(), by))

    def test_rests_of_worths_stay(self):
        chance = support.chance(69)
        for by in [2, 3, 4, 6]:
            text = "aba"
            many = table_round(table_of("ab", 2, text), by)
            for _ in range(5):
                total = support.some_sum(chance, "ab", 4, 2)
                front, end = support.some_text(chance, "ab", 3), support.some_text(chance, "ab", 3)
                gap = total.worth(front + text * many + end) - total.worth(front + end)
                self.assertEqual(gap % by, 0)

    def test_edges(self):
        self.assertEqual(table_round(Table("a", 0, [1]), 2), 1)
        self.assertEqual(table_round(table_of("ab", 3, ""), 1000), 1)
        self.assertEqual(table_round(table_of("a", 1, "a"), 997), 997)
        self.assertEqual(table_round(table_of("a", 1, "a"), 1000), 1000)
        # Choosing 8 or 5 or 10 things loses three twos or one five of the number.
        self.assertEqual(table_round(table_of("a", 12, "a"), 1000), 2 ** 6 * 5 ** 4)
        table = table_of("ab", 2, "ab")
        for wrong in [1, 0, -2, 1001, True, None, "2"]:
            self.refuses(InvalidNumber, wrong, table_round, table, wrong)


class Limits(support.TestCase):
    def test_within_seconds(self):
        chance = support.chance(70)
        for letters, depth in [("a", 12), ("ab", 7), ("abc", 5), ("abcd", 4)]:
            signs = letters + letters.upper()
            signed = self.in_seconds(table_of, letters, depth, support.some_text(chance, signs, 300))
            other = some_table(chance, letters, depth, support.BIG)
            for table in [signed, other]:
                self.in_seconds(joined, table, other)
                self.in_seconds(undone, table)
                self.in_seconds(first_difference, table, other)
                for many in [support.BIG, 2 ** 99]:
                    made = self.in_seconds(power, table, many)
                    self.assertEqual(self.in_seconds(root, made, many), table)
                    self.in_seconds(root, other, many)
                    self.assertEqual(self.in_seconds(greatest_root, made)[1] % many, 0)
                for by in [2, 512, 729, 997, 1000]:
                    self.in_seconds(table_round, table, by)
