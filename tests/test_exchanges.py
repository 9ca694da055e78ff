"""Points [16] to [19]: which texts can be exchanged, for a sum."""

import itertools

from skipcounts.differences import back_part, front_part
from skipcounts.errors import InvalidLetters, InvalidList, InvalidNumber, InvalidText, TooMany
from skipcounts.exchanges import changes, inner, kept_sums, turn_parting
from skipcounts.sums import Sum, plus, times
from tests import support


def pairs_in_order(letters, most):
    """All pairs of words with at most so many letters together, in the order of the document."""
    words = support.all_words(letters, most)
    pairs = [(one, other) for one in words for other in words if len(one) + len(other) <= most]
    return sorted(pairs, key=lambda pair: (len(pair[0]) + len(pair[1]), support.text_key(pair[0]),
                                           support.text_key(pair[1])))


def is_made_of(total, stairs):
    """Whether a sum is made of stairs, by taking away each at its first word."""
    rest = total
    for stair in stairs:
        word, number = stair.terms()[0]
        times_taken, left = divmod(dict(rest.terms()).get(word, 0), number)
        if left:
            return False
        rest = plus(rest, times(-times_taken, stair))
    return rest == Sum([])


class Examples(support.TestCase):
    def test_as_they_stand(self):
        self.assertEqual([part.terms() for part in inner(Sum([("ab", 2), ("ba", 2)]))],
                         [[('a', 2)], [('b', 2)], [('ab', 2), ('ba', 2)]])
        self.assertEqual(
            [changes(Sum([("aba", 1)]), "ab", "ba"), changes(Sum([("ab", 1), ("ba", 1)]), "ab", "ba"),
             turn_parting(Sum([("aab", 1)]))],
            [('', 'a'), None, ('a', 'ab')])
        self.assertEqual(
            [[part.terms() for part in kept_sums("ab", 1, [("aa", "b")])], len(kept_sums("ab", 2, [("ab", "ba")]))],
            [[[('', 1)], [('a', 1), ('b', 2)]], 6])


class StairTests(support.TestCase):
    def is_stair_list(self, stairs):
        firsts = [stair.terms()[0] for stair in stairs]
        words = [word for word, _ in firsts]
        self.assertEqual(words, sorted(words, key=support.text_key))
        self.assertEqual(len(set(words)), len(words))
        for at, (word, number) in enumerate(firsts):
            self.assertGreater(number, 0)
            for ahead in stairs[:at]:
                here = dict(ahead.terms()).get(word, 0)
                self.assertTrue(0 <= here < number, (stairs, word))


class Changes(support.TestCase):
    def test_against_going_through_the_texts(self):
        chance = support.chance(31)
        for letters, depth in [("a", 4), ("ab", 3), ("abc", 3)]:
            pairs = pairs_in_order(letters, depth)
            for _ in range(30):
                total = support.some_sum(chance, letters, 4, depth, 2)
                one = support.some_text(chance, letters, chance.randint(0, 4))
                other = support.some_text(chance, letters, chance.randint(0, 4))
                if chance.random() < 0.5:
                    other = "".join(chance.sample(one, len(one)))
                expected = None
                for front, back in pairs:
                    if total.worth(front + one + back) != total.worth(front + other + back):
                        expected = (front, back)
                        break
                self.assertEqual(changes(total, one, other), expected, (total.terms(), one, other))
                by_parts = None
                for front, back in pairs:
                    part = back_part(front_part(total, front), back)
                    if part.worth(one) != part.worth(other):
                        by_parts = (front, back)
                        break
                self.assertEqual(by_parts, expected)
                if expected is not None:
                    self.assertLess(len(expected[0] + expected[1]), total.degree())

    def test_edges(self):
        self.assertIsNone(changes(Sum([]), "a", "b"))
        self.assertIsNone(changes(Sum([("", 5)]), "a", "b"))
        self.assertIsNone(changes(Sum([("ab", 1)]), "ab", "ab"))
        self.assertIsNone(changes(Sum([("x", 1)]), "ab", ""))
        self.assertEqual(changes(Sum([("a", 1)]), "", "a"), ("", ""))
        self.assertEqual(changes(Sum([("xaz", 1)]), "", "a"), ("x", "z"))
        self.assertEqual(changes(Sum([("xaz", 1), ("bax", 1), ("axx", -1)]), "", "a"), ("", "xx"))
        self.assertIsNone(changes(Sum([("ab", 1), ("xaz", 1), ("ab", -1), ("xaz", -1)]), "", "a"))

    def test_wrong_texts(self):
        total = Sum([("a", 1)])
        for wrong in [None, "A", 1, ["a"], total]:
            self.refuses(InvalidText, wrong, changes, total, wrong, "a")
            self.refuses(InvalidText, wrong, changes, total, "a", wrong)
            self.refuses(InvalidText, wrong, changes, total, wrong, {})


class Inner(StairTests):
    def test_makes_just_what_the_parts_make(self):
        chance = support.chance(32)
        for letters, depth in [("a", 5), ("ab", 4), ("abc", 3), ("ab", 5)]:
            words = support.all_words(letters, depth)
            for _ in range(12):
                total = support.some_sum(chance, letters, chance.randint(1, 6), depth, 6)
                stairs = inner(total)
                self.is_stair_list(stairs)
                parts = []
                for front, back in itertools.product(words, words):
                    if len(front) + len(back) < max(total.degree(), 1):
                        part = back_part(front_part(total, front), back)
                        parts.append(Sum([term for term in part.terms() if term[0] != ""]))
                for part in parts:
                    self.assertTrue(is_made_of(part, stairs), (total.terms(), part.terms()))
                # Each stair is made of the parts: modulo each small number they reach the same.
                for by in [2, 3, 4, 5, 6, 7, 8, 9, 25]:
                    self.assertEqual(self.reached(parts, by), self.reached(stairs, by), (total.terms(), by))

    def reached(self, sums, by):
        """How many rows the sums make by rests: told by stairs made with the number itself at each word."""
        words = sorted({word for each in sums for word, _ in each.terms()}, key=support.text_key)
        rows = [[dict(each.terms()).get(word, 0) for word in words] for each in sums]
        rows += [[by if at == place else 0 for at in range(len(words))] for place in range(len(words))]
        many = 1
        for place in range(len(words)):
            while sum(row[place] != 0 for row in rows) > 1:
                least = min((row for row in rows if row[place]), key=lambda row: abs(row[place]))
                for at, row in enumerate(rows):
                    if row is not least and row[place]:
                        share = row[place] // least[place]
                        rows[at] = [(number - share * taken) if here <= place else (number - share * taken) % by
                                    for here, (number, taken) in enumerate(zip(row, least))]
            stair = next(row for row in rows if row[place])
            many *= by // abs(stair[place])
            rows = [row for row in rows if row is not stair]
        return many

    def test_tells_what_can_be_exchanged(self):
        chance = support.chance(33)
        texts = support.all_words("ab", 4)
        for _ in range(6):
            total = support.some_sum(chance, "ab", 4, 4, 2)
            stairs = inner(total)
            for one, other in itertools.combinations(texts, 2):
                same = all(stair.worth(one) == stair.worth(other) for stair in stairs)
                self.assertEqual(changes(total, one, other) is None, same)

    def test_edges(self):
        self.assertEqual(inner(Sum([])), [])
        self.assertEqual(inner(Sum([("", 9)])), [])
        self.assertEqual(inner(Sum([("a", -3), ("", 1)])), [Sum([("a", 3)])])
        self.assertEqual(inner(Sum([("aa", -2)])), [Sum([("a", 2)]), Sum([("aa", 2)])])

    def test_stairs_are_lessened(self):
        self.assertEqual([part.terms() for part in inner(Sum([("ab", 4), ("b", 6)]))],
                         [[("a", 4)], [("b", 2), ("ab", 4)], [("ab", 8)]])
        self.assertEqual([part.terms() for part in inner(Sum([("ab", 4), ("b", -7)]))],
                         [[("a", 4)], [("b", 1), ("ab", 4)], [("ab", 16)]])

    def test_within_seconds(self):
        chance = support.chance(34)
        for letters in ["a", "ab", "abc", "abcd", support.ALL_LETTERS]:
            for least in [0, 4, 6]:
                terms = [(support.some_text(chance, letters, chance.randint(least, 6)),
                          chance.randint(-support.BIG, support.BIG)) for _ in range(10)]
                self.is_stair_list(self.in_seconds(inner, Sum(terms)))


class TurnParting(support.TestCase):
    def test_against_going_through_the_texts(self):
        chance = support.chance(35)
        for letters, depth in [("a", 4), ("ab", 3), ("ab", 4), ("abc", 3)]:
            pairs = pairs_in_order(letters, depth + 1)
            for _ in range(20):
                total = support.some_sum(chance, letters, 3, depth, 1)
                if chance.random() < 0.6:
                    turned = [(word[cut:] + word[:cut], number) for word, number in total.terms()
                              for cut in range(max(1, len(word)))]
                    total = Sum(turned)
                expected = None
                for one, other in pairs:
                    if total.worth(one + other) != total.worth(other + one):
                        expected = (one, other)
                        break
                self.assertEqual(turn_parting(total), expected, total.terms())

    def test_edges(self):
        self.assertIsNone(turn_parting(Sum([])))
        self.assertIsNone(turn_parting(Sum([("", 1), ("a", 5), ("bbb", 2)])))
        self.assertIsNone(turn_parting(Sum([("ab", 2), ("ba", 2)])))
        self.assertEqual(turn_parting(Sum([("ba", 2)])), ("a", "b"))
        self.in_seconds(turn_parting, support.some_sum(support.chance(36), "ab", 2000, 12))


class KeptSums(StairTests):
    def test_against_changes(self):
        chance = support.chance(37)
        for letters, depth in [("a", 4), ("ab", 2), ("ab", 3), ("abc", 2), ("abcd", 1), ("q", 0)]:
            words = support.all_words(letters, depth)
            for many in [0, 1, 2, 3]:
                pairs = []
                for _ in range(many):
                    one = support.some_text(chance, letters, chance.randint(0, 4))
                    other = "".join(chance.sample(one, len(one))) if chance.random() < 0.6 else (
                        support.some_text(chance, letters, chance.randint(0, 4)))
                    pairs.append((one, other))
                stairs = kept_sums(letters, depth, pairs)
                self.is_stair_list(stairs)
                for stair in stairs:
                    self.assertLessEqual(stair.degree(), depth)
                    for one, other in pairs:
                        self.assertIsNone(changes(stair, one, other))
                # All small sums that are kept are made of the stairs.
                for _ in range(60):
                    total = Sum([(chance.choice(words), chance.randint(-2, 2)) for _ in range(3)])
                    kept = all(changes(total, one, other) is None for one, other in pairs)
                    self.assertEqual(kept, is_made_of(total, stairs), (pairs, total.terms()))

    def test_no_multiples_alone(self):
        # What is kept is kept if it is divided, so no first number can be taken out of a stair.
        chance = support.chance(38)
        for _ in range(20):
            pairs = [(support.some_text(chance, "ab", 6), support.some_text(chance, "ab", 5)) for _ in range(2)]
            stairs = kept_sums("ab", 3, pairs)
            for by in [2, 3, 5]:
                for shares in itertools.product(range(by), repeat=min(len(stairs), 4)):
                    if any(shares):
                        total = Sum([])
                        for share, stair in zip(shares, stairs):
                            total = plus(total, times(share, stair))
                        self.assertTrue(any(number % by for _, number in total.terms()))

    def test_edges(self):
        self.assertEqual(kept_sums("ab", 0, [("a", "b")]), [Sum([("", 1)])])
        self.assertEqual(kept_sums("ab", 1, []), [Sum([("", 1)]), Sum([("a", 1)]), Sum([("b", 1)])])
        self.assertEqual(kept_sums("ab", 1, [("", "a")]), [Sum([("", 1)]), Sum([("b", 1)])])
        self.assertEqual(kept_sums("a", 2, [("", "a")]), [Sum([("", 1)])])

    def test_at_most_40_words(self):
        for letters, depth, many in [("a", 39, 40), ("ab", 4, 31), ("abc", 3, 40), ("abcd", 2, 21)]:
            self.assertEqual(len(kept_sums(letters, depth, [])), many)
        for letters, depth, many in [("ab", 5, 63), ("abc", 4, 121), ("abcd", 3, 85), ("ab", 39, 2 ** 40 - 1)]:
            self.refuses_number(TooMany, many, kept_sums, letters, depth, [])
            self.refuses_number(TooMany, many, kept_sums, letters, depth, None)
        self.refuses(InvalidNumber, 40, kept_sums, "a", 40, None)
        self.refuses(InvalidNumber, -1, kept_sums, "a", -1, None)
        self.refuses(InvalidLetters, "ba", kept_sums, "ba", 40, None)

    def test_wrong_pairs(self):
        for wrong in [[("a",)], [("a", "b", "a")], [["a", "b"]], [("a", "c")], [("c", "a")], [("a", "A")], [None],
                      (("a", "b"),), [("a", "b"), None], {"a": "b"}, None, [("a", 1)], [(Sum([]), "a")], "ab"]:
            self.refuses(InvalidList, wrong, kept_sums, "ab", 2, wrong)

    def test_within_seconds(self):
        chance = support.chance(39)
        for letters, depth in [("a", 39), ("ab", 4), ("abc", 3), ("abcd", 2)]:
            for many in [1, 2, 3, 20]:
                one = [support.some_text(chance, letters, 40) for _ in range(many)]
                pairs = [(text, "".join(chance.sample(text, 40))) for text in one]
                self.is_stair_list(self.in_seconds(kept_sums, letters, depth, pairs))
                pairs = [(text, support.some_text(chance, letters, chance.randint(0, 40))) for text in one]
                self.is_stair_list(self.in_seconds(kept_sums, letters, depth, pairs))
        total = support.some_sum(chance, "ab", 40, 12, support.BIG)
        texts = [support.some_text(chance, "ab", 300) for _ in range(2)]
        self.in_seconds(changes, total, texts[0], texts[1])
