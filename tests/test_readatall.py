"""Points [70] to [74]: words that are read at all, least forms, and steps."""

import itertools

from skipcounts.errors import InvalidNumber, InvalidText, TooMany
from skipcounts.leastforms import are_steps, can_go, least_form, ranks, steps
from skipcounts.readatall import parting_word, read_alike, read_likeness, reads, steady_from
from tests import support

FAR = 10 ** 29
TEXTS = support.all_words("ab", 6) + [text for text in support.all_words("abc", 4) if "c" in text]


def plain_reads(depth, text):
    words = {"".join(signs) for size in range(min(depth, len(text)) + 1)
             for signs in itertools.combinations(text, size)}
    return sorted(words, key=support.text_key)


def plain_ranks(text):
    """The ranks by their meaning: the fewest letters of words that are read with the place, but not without."""
    found = []
    for place, letter in enumerate(text):
        front, back = text[:place], text[place + 1:]
        x = min(len(word) + 1 for word in plain_reads(place, front)
                if word + letter not in plain_reads(place + 1, front))
        y = min(len(word) + 1 for word in plain_reads(len(text), back)
                if letter + word not in plain_reads(len(text), back))
        found.append((x, y))
    return found


def is_letter_more(longer, shorter):
    return any(longer[:place] + longer[place + 1:] == shorter for place in range(len(longer)))


class Examples(support.TestCase):
    def test_as_they_stand(self):
        self.assertEqual([reads(1, "abba"), read_likeness("abba", "baab"), parting_word("abba", "baab"),
                          steady_from(2, "aa", "ab", "bb")], [["", "a", "b"], 2, "aab", 2])
        self.assertEqual([ranks("abba"), can_go(1, "abba"), can_go(2, "abba"), least_form(2, "baab"),
                          are_steps(2, ["abba", "abbab", "abab"])],
                         [[(1, 2), (1, 2), (2, 1), (2, 1)], [0, 1, 2, 3], [], "abab", True])


class Reads(support.TestCase):
    def test_against_listing(self):
        for text in TEXTS:
            for depth in [0, 1, 2, 3, 7]:
                self.assertEqual(reads(depth, text), plain_reads(depth, text))

    def test_edges(self):
        self.assertEqual(reads(0, "ab"), [""])
        self.assertEqual(reads(FAR, ""), [""])
        self.assertEqual(reads(FAR, "aba"), ["", "a", "b", "aa", "ab", "ba", "aba"])
        self.assertEqual(reads(3, "a" * 300), ["", "a", "aa", "aaa"])
        self.assertEqual(len(reads(FAR, "a" * 300)), 301)

    def test_too_many(self):
        # In a text of one letter as many words are read as it has letters, and the empty one.
        self.assertEqual(len(self.in_seconds(reads, FAR, "a" * 1999)), 2000)
        self.refuses_number(TooMany, 2001, reads, FAR, "a" * 2000)
        text = "abcd" * 75
        self.assertEqual(len(self.in_seconds(reads, 5, text)), 1365)
        self.refuses_number(TooMany, 5461, reads, 6, text)
        self.refuses_number(TooMany, 2 ** 301 - 1, reads, 300, "ab" * 300)
        self.assertEqual(len(self.in_seconds(reads, 2, support.ALL_LETTERS * 11)), 703)
        self.refuses_number(TooMany, 2 ** 12 - 1 + 1, reads, 12, "abcdefghijkl")

    def test_likeness(self):
        chance = support.chance(7001)
        likenesses = set()
        for _ in range(400):
            one, other = [chance.choice(TEXTS) for _ in "ab"]
            if chance.random() < 0.3:
                other = one[:2] + one[2:4] * 2 + one[4:]
            apart = sorted(set(plain_reads(20, one)) ^ set(plain_reads(20, other)), key=support.text_key)
            self.assertEqual(parting_word(one, other), apart[0] if apart else None)
            likeness = len(apart[0]) - 1 if apart else None
            self.assertEqual(read_likeness(one, other), likeness)
            likenesses.add(likeness)
            for depth in [0, 1, 2, 3, 4, FAR]:
                alike = plain_reads(depth, one) == plain_reads(depth, other)
                self.assertIs(read_alike(depth, one, other), alike)
                self.assertEqual(alike, likeness is None or depth <= likeness)
        self.assertGreaterEqual(likenesses, {None, 0, 1, 2})

    def test_likeness_at_edges(self):
        self.assertIsNone(read_likeness("", ""))
        self.assertIsNone(parting_word("a" * 300, "a" * 300))
        self.assertEqual((read_likeness("", "b"), parting_word("", "b")), (0, "b"))
        self.assertEqual((read_likeness("a", "z"), parting_word("a", "z")), (0, "a"))
        self.assertEqual(parting_word("a" * 299, "a" * 300), "a" * 300)
        self.assertIs(read_alike(299, "a" * 299, "a" * 300), True)
        self.assertIs(read_alike(300, "a" * 299, "a" * 300), False)
        self.assertIs(read_alike(0, "a", "b"), True)

    def test_steady(self):
        chance = support.chance(7101)
        found = set()
        for _ in range(150):
            head, part, tail = [support.some_text(chance, "abc"[:chance.randint(1, 3)], chance.randint(0, 3))
                                for _ in "abc"]
            depth = chance.randint(0, 4)
            kinds = [plain_reads(depth, head + part * times + tail) for times in range(depth + 3)]
            least = min(times for times in range(depth + 1) if all(own == kinds[times] for own in kinds[times:]))
            self.assertEqual(steady_from(depth, head, part, tail), least)
            found.add(least)
        self.assertGreaterEqual(found, {0, 1, 2, 3})
        self.assertEqual(steady_from(0, "", "a", ""), 0)
        self.assertEqual(steady_from(12, "", "a", ""), 12)
        self.assertEqual(steady_from(12, "ab", "", "ba"), 0)
        self.assertEqual(steady_from(5, "aaaaa", "a", ""), 0)

    def test_at_the_limits(self):
        chance = support.chance(7102)
        letters = support.ALL_LETTERS
        self.assertEqual(self.in_seconds(steady_from, 12, letters[:20], letters[20::-1][:20], letters[:20]), 12)
        for some in ["ab", "abc", letters]:
            self.in_seconds(steady_from, 12, *[support.some_text(chance, some, 20) for _ in range(3)])
            one = support.some_text(chance, some, 300)
            for other in [one[:149] + one[150:] + one[149], one[::-1], one[:299]]:
                self.in_seconds(parting_word, one, other)
        self.assertEqual(len(self.in_seconds(parting_word, "ab" * 150, "ab" * 149 + "ba")), 151)
        self.assertEqual(len(self.in_seconds(parting_word, letters * 11, letters * 10 + letters[::-1])), 12)


class Ranks(support.TestCase):
    def test_by_their_meaning(self):
        for text in TEXTS[::3]:
            self.assertEqual(ranks(text), plain_ranks(text))
        self.assertEqual(ranks(""), [])
        self.assertEqual(ranks("aaa"), [(1, 3), (2, 2), (3, 1)])

    def test_letters_that_can_go(self):
        for text in TEXTS:
            for depth in range(5):
                left = [text[:place] + text[place + 1:] for place in range(len(text))]
                self.assertEqual(can_go(depth, text), [place for place, own in enumerate(left)
                                                       if plain_reads(depth, own) == plain_reads(depth, text)])
        self.assertEqual(can_go(FAR, "abab"), [])
        self.assertEqual(can_go(0, "abab"), [0, 1, 2, 3])
        self.assertEqual(can_go(3, ""), [])


class Forms(support.TestCase):
    def test_against_listing(self):
        for depth in range(4):
            firsts = {}
            for text in sorted(TEXTS, key=support.text_key):
                kind = tuple(plain_reads(depth, text))
                self.assertEqual(least_form(depth, text), firsts.setdefault(kind, text))

    def test_edges(self):
        self.assertEqual(least_form(0, "abc"), "")
        self.assertEqual(least_form(1, "cab"), "abc")
        self.assertEqual(least_form(FAR, "ba" * 150), "ba" * 150)
        self.assertEqual(least_form(3, ""), "")
        self.assertEqual(least_form(3, "a" * 300), "aaa")
        self.assertEqual(least_form(1, support.ALL_LETTERS[::-1] * 11), support.ALL_LETTERS)

    def test_two_texts_are_alike_exactly_if_their_forms_are_equal(self):
        chance = support.chance(7301)
        for _ in range(60):
            one = support.some_text(chance, "abc", 30)
            other = one[::-1] if chance.random() < 0.5 else one[:15] + one[16:]
            for depth in [1, 2, 3, 4, 6]:
                self.assertEqual(least_form(depth, one) == least_form(depth, other), read_alike(depth, one, other))
                self.assertTrue(read_alike(depth, one, least_form(depth, one)))

    def test_at_the_limits(self):
        chance = support.chance(7302)
        for some in ["a", "ab", "abc", support.ALL_LETTERS]:
            text = support.some_text(chance, some, 300)
            for depth in [0, 1, 3, 10, 40, 300, FAR]:
                form = self.in_seconds(least_form, depth, text)
                self.assertTrue(read_alike(depth, form, text))
                self.assertEqual(form, least_form(depth, form))


class Steps(support.TestCase):
    def check(self, depth, one, other):
        found = self.in_seconds(steps, depth, one, other)
        alike = read_alike(depth, one, other)
        self.assertEqual(found is not None, alike)
        if alike:
            self.assertEqual((found[0], found[-1]), (one, other))
            self.assertTrue(are_steps(depth, found))
            for ahead, behind in zip(found, found[1:]):
                self.assertTrue(is_letter_more(ahead, behind) or is_letter_more(behind, ahead))
                self.assertTrue(read_alike(depth, ahead, behind))
        return alike

    def test_all_ways(self):
        chance = support.chance(7401)
        alike = 0
        for _ in range(300):
            one, other = chance.choice(TEXTS), chance.choice(TEXTS)
            alike += self.check(chance.randint(0, 3), one, other)
        self.assertGreater(alike, 30)
        for one in ["cba", "bca", "abc"]:
            for other in ["abc", "acb", "cabbac"]:
                self.assertTrue(self.check(1, one, other))

    def test_edges(self):
        self.assertEqual(steps(3, "", ""), [""])
        self.assertEqual(steps(FAR, "ab", "ab"), ["ab"])
        self.assertIsNone(steps(1, "", "a"))
        self.assertIsNone(steps(FAR, "ab", "ba"))
        self.check(0, "", "abc")
        self.check(0, "cba", "")

    def test_at_the_limits(self):
        letters = support.ALL_LETTERS
        self.assertTrue(self.check(1, letters[::-1] * 11, letters * 11))
        self.assertTrue(self.check(11, letters[::-1] * 11, letters[::-1] * 11 + letters))
        self.assertTrue(self.check(4, "ab" * 150, "ba" * 150))

    def test_what_are_steps(self):
        for depth, value in [(2, ["abba"]), (0, ["", "a", "ab", "b"]), (1, ["ab", "aab", "ab", "abb"]), (FAR, ["ab"]),
                             (1, ["a", "aa", "aaa"]), (2, [""])]:
            self.assertIs(are_steps(depth, value), True)
        for depth, value in [(2, []), (2, ()), (2, ("a",)), (2, None), (2, "ab"), (2, [None]), (2, ["a", 1]),
                             (2, ["A"]), (1, ["", "a"]), (1, ["a", "a"]), (1, ["a", "aaa"]), (1, ["ab", "ba"]),
                             (2, ["ab", "aba"]), (1, ["ab", "aab", "aa"]), (0, ["ab", "ba"]), (1, [["a"]]),
                             (1, ["a", "aa", None])]:
            self.assertIs(are_steps(depth, value), False)

    def test_each_bent_step_is_seen(self):
        chance = support.chance(7402)
        for _ in range(60):
            depth, text = chance.randint(0, 3), chance.choice(TEXTS)
            way = [text]
            for _ in range(4):
                own = way[-1]
                place = chance.randint(0, len(own))
                way.append(own[:place] + chance.choice("abc") + own[place:] if chance.random() < 0.5
                           else own[:place] + own[place + 1:])
            expected = all(len(ahead) != len(behind) for ahead, behind in zip(way, way[1:])) and all(
                plain_reads(depth, own) == plain_reads(depth, text) for own in way)
            self.assertEqual(are_steps(depth, way), expected)


class Wrong(support.TestCase):
    def test_order(self):
        for wrong in [None, True, -1, "1", [1], (1,)]:
            for call in [reads, can_go, least_form, are_steps]:
                self.refuses(InvalidNumber, wrong, call, wrong, 7)
            for call in [read_alike, steps]:
                self.refuses(InvalidNumber, wrong, call, wrong, 7, 8)
            self.refuses(InvalidNumber, wrong, steady_from, wrong, 7, 8, 9)
        for wrong in [None, 1, "A", "a b", ["a"], b"a"]:
            for call in [reads, can_go, least_form]:
                self.refuses(InvalidText, wrong, call, 1, wrong)
            for call in [read_alike, steps]:
                self.refuses(InvalidText, wrong, call, 1, wrong, 1)
                self.refuses(InvalidText, wrong, call, 1, "a", wrong)
            for call in [read_likeness, parting_word]:
                self.refuses(InvalidText, wrong, call, wrong, 1)
                self.refuses(InvalidText, wrong, call, "a", wrong)
            self.refuses(InvalidText, wrong, ranks, wrong)
            for at in range(3):
                given = ["a"] * at + [wrong] + [1] * (2 - at)
                self.refuses(InvalidText, wrong, steady_from, 1, *given)
