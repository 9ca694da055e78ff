"""Points [32] and [33]: texts that are alike to a depth, and signed texts without capitals."""

import itertools

from skipcounts.alike import depth_alike, twist, twist_gap, without_capitals
from skipcounts.errors import InvalidLetters, InvalidList, InvalidNumber, InvalidText, TooMany
from skipcounts.readings import count
from skipcounts.tables import first_difference, joined, table_of
from tests import support


class Examples(support.TestCase):
    def test_as_they_stand(self):
        self.assertEqual(
            [depth_alike("ab", 4, "abba", "baab"), depth_alike("ab", 4, "ab", "a"), twist("a", "b", ["c"])],
            [2, 0, ('abcba', 'bacab')])
        self.assertEqual(twist_gap("a", "b", [""]),
                         [('aab', -1), ('aba', 2), ('abb', 1), ('baa', -1), ('bab', -2), ('bba', 1)])


class DepthAlike(support.TestCase):
    def test_against_the_tables(self):
        chance = support.chance(81)
        for letters, most in [("a", 4), ("ab", 3), ("abc", 2), ("ab", 0)]:
            signs = letters + letters.upper()
            for _ in range(20):
                one = support.some_text(chance, signs, chance.randint(0, 5))
                other = "".join(chance.sample(one, len(one))) if chance.random() < 0.6 else (
                    support.some_text(chance, signs, chance.randint(0, 5)))
                depths = [depth for depth in range(most + 1)
                          if table_of(letters, depth, one) == table_of(letters, depth, other)]
                self.assertEqual(depth_alike(letters, most, one, other), max(depths))

    def test_edges(self):
        self.assertEqual(depth_alike("ab", 4, "aAbB", ""), 4)
        self.assertEqual(depth_alike("ab", 0, "a", "b"), 0)
        self.assertEqual(depth_alike("a", 12, "a", "a"), 12)
        self.assertEqual(depth_alike("ab", 4, "a", "A"), 0)

    def test_wrong_arguments(self):
        self.refuses_number(TooMany, 511, depth_alike, "ab", 8, None, None)
        for wrong in [13, -1, True, None]:
            self.refuses(InvalidNumber, wrong, depth_alike, "ab", wrong, None, None)
        self.refuses(InvalidLetters, "ba", depth_alike, "ba", 13, None, None)
        long = "a" * 301
        for wrong in [None, "c", long, 1, ["a"]]:
            self.refuses(InvalidText, wrong, depth_alike, "ab", 7, wrong, {})
            self.refuses(InvalidText, wrong, depth_alike, "ab", 7, "a", wrong)


class Twists(support.TestCase):
    def some_arguments(self):
        chance = support.chance(82)
        yield "", "", []
        yield "a", "a", ["a"]
        yield "a", "", ["b", ""]
        for letters in ["ab", "abc", "wxyz"]:
            for many in range(4):
                for most in [1, 2, 3]:
                    parts = [support.some_text(chance, letters, chance.randint(0, most)) for _ in range(many)]
                    yield (support.some_text(chance, letters, chance.randint(0, most)),
                           support.some_text(chance, letters, chance.randint(1, most)), parts)

    def test_by_the_definition(self):
        for x, y, parts in self.some_arguments():
            pair = (x + y, y + x)
            for part in parts:
                pair = (pair[0] + part + pair[1], pair[1] + part + pair[0])
            self.assertEqual(twist(x, y, parts), pair)
            letters = "".join(sorted(set("".join(pair)))) or "a"
            depth = len(parts) + 1
            for word in support.all_words(letters, min(depth, 3)):
                self.assertEqual(count(word, pair[0]), count(word, pair[1]))

    def test_gaps_against_the_counts(self):
        for x, y, parts in self.some_arguments():
            one, other = twist(x, y, parts)
            letters = "".join(sorted(set(one))) or "a"
            if len(parts) == 3 and len(letters) > 2:
                continue
            expected = []
            for word in support.all_words(letters, len(parts) + 2):
                gap = count(word, one) - count(word, other)
                if gap:
                    expected.append((word, gap))
            # Shorter words have the same counts, so all words with a gap have just so many letters.
            self.assertEqual(twist_gap(x, y, parts), expected)

    def test_edges(self):
        self.assertEqual(twist("", "", []), ("", ""))
        self.assertEqual(twist_gap("", "", []), [])
        self.assertEqual(twist_gap("a", "b", []), [("ab", 1), ("ba", -1)])
        self.assertEqual(twist_gap("ab", "ba", ["", "a"]), [])
        self.assertEqual(twist("a" * 13, "b", []), ("a" * 13 + "b", "b" + "a" * 13))

    def test_wrong_arguments(self):
        for call in [twist, twist_gap]:
            for wrong in [None, "A", 1, ["a"], {}]:
                self.refuses(InvalidText, wrong, call, wrong, {}, None)
                self.refuses(InvalidText, wrong, call, "a", wrong, None)
            for wrong in [None, ("a",), "a", ["A"], ["a", None], [["a"]], {}, [1]]:
                self.refuses(InvalidList, wrong, call, "a", "b", wrong)


class WithoutCapitals(support.TestCase):
    def is_right(self, letters, depth, signed):
        found = without_capitals(letters, depth, signed)
        self.assertIs(type(found), tuple)
        self.assertEqual(len(found), 2)
        for text in found:
            self.assertTrue(support.is_plain_over(letters)(text), signed)
            self.assertLessEqual(len(text), 300, signed)
        first, second = [table_of(letters, depth, text) for text in found]
        made = joined(first, table_of(letters, depth, signed))
        self.assertIsNone(first_difference(made, second), (signed, found))

    def test_all_signed_texts_of_at_most_6_signs(self):
        for size in range(7):
            for signs in itertools.product("abAB", repeat=size):
                signed = "".join(signs)
                if sum(sign.isupper() for sign in signed) <= 3:
                    self.is_right("ab", 3, signed)

    def test_other_depths_and_letters(self):
        chance = support.chance(83)
        for letters, depth in [("a", 0), ("a", 3), ("ab", 0), ("ab", 1), ("ab", 2), ("abc", 3), ("abcd", 3),
                               ("mxyz", 2), ("mxyz", 1), ("abcd", 0)]:
            for _ in range(40):
                many = chance.randint(0, 3)
                signs = [chance.choice(letters.upper()) for _ in range(many)]
                signs += [chance.choice(letters) for _ in range(chance.randint(0, 6 - many))]
                chance.shuffle(signs)
                self.is_right(letters, depth, "".join(signs))
        for signed in ["", "abcABC", "ABCabc", "aAbBcC", "abcCBA", "AAAaaa", "ABC", "aaaBBB"]:
            self.is_right("abc", 3, signed)

    def test_wrong_arguments(self):
        for wrong in [None, "c", "a" * 301, 1, ["a"], {}]:
            self.refuses(InvalidText, wrong, without_capitals, "ab", 3, wrong)
        self.refuses_number(TooMany, 511, without_capitals, "ab", 8, None)
        self.refuses(InvalidNumber, 13, without_capitals, "ab", 13, None)
        self.refuses(InvalidLetters, "ba", without_capitals, "ba", 13, None)


class Limits(support.TestCase):
    def test_within_seconds(self):
        chance = support.chance(84)
        for letters, depth in [("a", 12), ("ab", 7), ("abc", 5), ("abcd", 4)]:
            signs = letters + letters.upper()
            one, other = support.some_text(chance, signs, 300), support.some_text(chance, signs, 300)
            self.in_seconds(depth_alike, letters, depth, one, other)
        x, y, *parts = [support.some_text(chance, "abcd", 12) for _ in range(5)]
        one, other = self.in_seconds(twist, x, y, parts)
        self.assertEqual(len(one), 24 * 8 + 12 * 7)
        gap = self.in_seconds(twist_gap, x, y, parts)
        for word, number in gap[::40]:
            self.assertEqual(count(word, one) - count(word, other), number)
        self.in_seconds(without_capitals, "abcd", 3, "abcDBA")
