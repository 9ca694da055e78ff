"""Points [34] and [35]: rules of letters, and sums led by them."""

from skipcounts.errors import InvalidNumber, InvalidRules, InvalidSum, InvalidText, TooLong, TooMany
from skipcounts.products import product
from skipcounts.readings import count
from skipcounts.rules import done, led, rules_after, rules_part
from skipcounts.sums import Sum
from tests import support


def plain_done(rules, text):
    images = dict(rules)
    return "".join(images.get(letter, letter) for letter in text)


def some_rules(chance, letters, image_letters, most=3):
    return [(letter, support.some_text(chance, image_letters, chance.randint(0, most)))
            for letter in letters if chance.random() < 0.8]


def cuts_in_parts(word, many):
    """All ways to cut a word into so many parts, none of them empty."""
    if many == 0:
        return [[]] if word == "" else []
    return [[word[:size]] + rest for size in range(1, len(word) + 1) for rest in cuts_in_parts(word[size:], many - 1)]


WRONG_RULES = [
    None, True, 1, "ab", (), (("a", "b"),), {}, {"a": "b"}, [None], ["ab"], [["a", "b"]], [("a",)], [("a", "b", "c")],
    [("", "a")], [("ab", "a")], [("A", "a")], [("a", "A")], [("a", None)], [(1, "a")], [("a", 1)], [("a", ["b"])],
    [("b", "a"), ("a", "b")], [("a", "b"), ("a", "b")], [("a", "b" * 21)], [(letter, "") for letter in "abcde"],
    Sum([]), [("a", Sum([]))],
]


class Examples(support.TestCase):
    def test_as_they_stand(self):
        grown, twist, swap = [("a", "ab"), ("b", "a")], [("a", "ab"), ("b", "ba")], [("a", "b"), ("b", "a")]
        self.assertEqual(
            [done(grown, "aba"), rules_after(grown, grown), rules_part(twist, [("a", "ba"), ("b", "ab")], 2)],
            ['abaab', [('a', 'aba'), ('b', 'ab')], ('ab', 'a')])
        ab, both = Sum([("ab", 1)]), Sum([("ab", 1), ("ba", -1)])
        self.assertEqual([led(ab, grown).terms(), led(both, twist).terms()],
                         [[('a', 1), ('aa', 1), ('ba', 1)], [('a', 1), ('b', -1)]])
        self.assertEqual(rules_after(swap, swap), [])


class Done(support.TestCase):
    def test_against_writing_out(self):
        chance = support.chance(91)
        for letters in ["a", "ab", "acz", "abcd"]:
            for _ in range(15):
                rules = some_rules(chance, letters, "abxz")
                text = support.some_text(chance, letters + "q", 10)
                self.assertEqual(done(rules, text), plain_done(rules, text))

    def test_edges(self):
        self.assertEqual(done([], "abc"), "abc")
        self.assertEqual(done([("a", "")], "aaa"), "")
        self.assertEqual(done([("b", "x")], "aaa"), "aaa")
        self.assertEqual(done([("a", "b"), ("b", "a")], ""), "")
        self.assertEqual(done([(letter, "z" * 20) for letter in "abcd"], "abcd"), "z" * 80)

    def test_at_most_300_letters(self):
        rules = [("a", "b" * 20)]
        self.assertEqual(done(rules, "a" * 15), "b" * 300)
        self.refuses_number(TooLong, 301, done, rules, "a" * 15 + "b")
        self.refuses_number(TooLong, 6000, done, rules, "a" * 300)
        self.refuses_number(TooLong, 301, done, [], "a" * 301)
        self.assertEqual(done([("a", "")], "a" * 301), "")

    def test_wrong_arguments(self):
        for wrong in WRONG_RULES:
            self.refuses(InvalidRules, wrong, done, wrong, None)
            self.refuses(InvalidRules, wrong, rules_after, wrong, None)
            self.refuses(InvalidRules, wrong, rules_after, [], wrong)
            self.refuses(InvalidRules, wrong, led, Sum([]), wrong)
            self.refuses(InvalidRules, wrong, rules_part, wrong, None, None)
            self.refuses(InvalidRules, wrong, rules_part, [], wrong, None)
        for wrong in [None, "A", 1, ["a"], {}]:
            self.refuses(InvalidText, wrong, done, [], wrong)
        self.refuses(InvalidSum, None, led, None, None)


class RulesAfter(support.TestCase):
    def test_does_both(self):
        chance = support.chance(92)
        for _ in range(40):
            first, second = some_rules(chance, "abc", "abcd", 2), some_rules(chance, "abcd", "abc", 2)
            found = rules_after(first, second)
            for text in support.all_words("abcde", 2):
                self.assertEqual(done(found, text), done(second, done(first, text)))
            for letter, image in found:
                self.assertNotEqual(letter, image)
            self.assertEqual(found, sorted(found))
            same = all(done(first, text) == done(second, text) for text in "abcd")
            self.assertEqual(rules_after(first, []) == rules_after(second, []), same)

    def test_edges(self):
        self.assertEqual(rules_after([], []), [])
        self.assertEqual(rules_after([("a", "a"), ("b", "")], []), [("b", "")])
        self.assertEqual(rules_after([], [("a", "a"), ("b", "")]), [("b", "")])
        self.assertEqual(rules_after([("a", "")], [("a", "b")]), [("a", "")])
        self.assertEqual(rules_after([("a", "b")], [("b", "a")]), [("b", "a")])

    def test_bounds_and_their_order(self):
        four = [(letter, letter + letter) for letter in "abcd"]
        self.assertEqual(len(rules_after(four, [])), 4)
        self.refuses_number(TooMany, 5, rules_after, four, [("e", "")])
        self.refuses_number(TooMany, 8, rules_after, four, [(letter, "x" * 20) for letter in "efgh"])
        self.assertEqual(rules_after([("a", "b" * 10)], [("b", "cc")]), [("a", "c" * 20), ("b", "cc")])
        self.refuses_number(TooLong, 22, rules_after, [("a", "b" * 11)], [("b", "cc")])
        self.refuses_number(TooLong, 400, rules_after, [("a", "b" * 20), ("c", "b" * 3)], [("b", "c" * 20)])
        self.refuses_number(TooMany, 5, rules_after, four, [("a", "x" * 20), ("e", "")])
        # Letters that both lead to themselves do not count.
        self.assertEqual(len(rules_after([(letter, "x") for letter in "abcd"], [("e", "e")])), 4)


class Led(support.TestCase):
    def test_worths_at_all_texts(self):
        chance = support.chance(93)
        for letters, depth in [("a", 4), ("ab", 3), ("abc", 2)]:
            for _ in range(12):
                total = support.some_sum(chance, letters, 5, depth)
                rules = some_rules(chance, letters + "q", letters + "x")
                found = led(total, rules)
                self.assertLessEqual(found.degree(), max(total.degree(), -1))
                for text in support.all_words(letters + "qx", 3):
                    self.assertEqual(found.worth(text), total.worth(plain_done(rules, text)))

    def test_numbers_by_all_cuts(self):
        rules = [("a", "ab"), ("b", "ba"), ("c", "aabb")]
        for word in ["ab", "aab", "abba", "c"]:
            numbers = dict(led(Sum([(word, 1)]), rules).terms())
            for made in support.all_words("abc", len(word)):
                expected = 0
                for parts in cuts_in_parts(word, len(made)):
                    share = 1
                    for part, letter in zip(parts, made):
                        share *= support.plain_count(part, dict(rules)[letter])
                    expected += share
                self.assertEqual(numbers.get(made, 0), expected)

    def test_one_after_the_other_and_products(self):
        chance = support.chance(94)
        for _ in range(10):
            total, other = support.some_sum(chance, "ab", 4, 2), support.some_sum(chance, "ab", 4, 2)
            first, second = some_rules(chance, "ab", "ab", 2), some_rules(chance, "ab", "ab", 2)
            self.assertEqual(led(led(total, second), first), led(total, rules_after(first, second)))
            self.assertEqual(led(product(total, other), first), product(led(total, first), led(other, first)))

    def test_edges(self):
        total = Sum([("ab", 2), ("", 3)])
        self.assertEqual(led(total, []), total)
        self.assertEqual(led(Sum([]), [("a", "b")]), Sum([]))
        self.assertEqual(led(total, [("a", ""), ("b", "")]), Sum([("", 3)]))
        self.assertEqual(led(total, [("c", "ab")]), Sum([("", 3), ("ab", 2), ("c", 2), ("ac", 2), ("cb", 2), ("cc", 2)]))


class RulesPart(support.TestCase):
    def plain_part(self, one, other, depth):
        letters = sorted(set("".join(letter + image for letter, image in one + other)))
        for word in support.all_words(letters, depth):
            for letter in letters:
                if count(word, plain_done(one, letter)) != count(word, plain_done(other, letter)):
                    return (word, letter)
        return None

    def test_against_listing(self):
        chance = support.chance(95)
        none = 0
        for letters in ["a", "ab", "abc", "xz"]:
            for depth in range(4):
                for _ in range(12):
                    one = some_rules(chance, letters, letters, 4)
                    other = [(letter, "".join(chance.sample(image, len(image)))) for letter, image in one]
                    if chance.random() < 0.3:
                        other = some_rules(chance, letters, letters, 4)
                    found = rules_part(one, other, depth)
                    self.assertEqual(found, self.plain_part(one, other, depth))
                    none += found is None
                    # All counts up to the depth are led alike exactly if there is nothing that parts the rules.
                    words = support.all_words(letters, depth)
                    same = all(led(Sum([(word, 1)]), one) == led(Sum([(word, 1)]), other) for word in words)
                    self.assertEqual(found is None, same)
        self.assertGreater(none, 20)

    def test_edges(self):
        self.assertIsNone(rules_part([], [], 4))
        self.assertIsNone(rules_part([("a", "")], [("a", "bb")], 0))
        self.assertIsNone(rules_part([("a", "a")], [], 4))
        self.assertEqual(rules_part([("a", "")], [], 1), ("a", "a"))
        self.assertEqual(rules_part([("b", "x"), ("c", "x")], [("b", "y"), ("c", "x")], 2), ("x", "b"))
        self.assertEqual(rules_part([("a", "abba")], [("a", "baab")], 4), ("aab", "a"))
        self.assertIsNone(rules_part([("a", "abba")], [("a", "baab")], 2))

    def test_wrong_depths(self):
        for wrong in [-1, 5, True, None, "1", [1]]:
            self.refuses(InvalidNumber, wrong, rules_part, [], [], wrong)


class Limits(support.TestCase):
    def test_within_seconds(self):
        chance = support.chance(96)
        for letters, depth in [("a", 12), ("ab", 7), ("abc", 4), ("abcd", 4)]:
            total = support.some_sum(chance, letters, 40, depth, support.BIG)
            rules = [(letter, support.some_text(chance, letters, 20)) for letter in letters]
            found = self.in_seconds(led, total, rules)
            text = support.some_text(chance, letters, 15)
            self.assertEqual(found.worth(text), total.worth(done(rules, text)))
            other = [(letter, "".join(chance.sample(image, 20))) for letter, image in rules]
            self.in_seconds(rules_part, rules, other, 4)
            self.in_seconds(rules_part, rules, rules, 4)
            wide = [(letter, support.ALL_LETTERS[:20]) for letter in letters]
            self.assertIsNone(self.in_seconds(rules_part, wide, wide, 4))
