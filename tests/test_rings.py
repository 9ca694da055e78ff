"""Points [75] to [78]: arches, forms, and machines that see only what is read."""

import itertools
import math

from skipcounts.arches import arches, form_number, form_numbered, how_many_forms, missing
from skipcounts.errors import InvalidFinite, InvalidLetters, InvalidNumber, InvalidText, TooMany
from skipcounts.finites import Finite
from skipcounts.leastforms import least_form
from skipcounts.readatall import read_alike
from skipcounts.rings import blind_spot, is_blind_spot, seen_forms, sight
from tests import support

FAR = 10 ** 29
EVEN, A_THEN_B = Finite("a", [[1], [0]], [0]), Finite("ab", [[1, None], [None, 1]], [1])
# The first letter decides: no letter leads back, and still there is no depth.
FIRST = Finite("ab", [[1, 2], [1, 1], [2, 2]], [1])
NONE, ALL = Finite("ab", [[None, None]], []), Finite("ab", [[0, 0]], [0])


def plain_reads(depth, text):
    return frozenset("".join(signs) for size in range(min(depth, len(text)) + 1)
                     for signs in itertools.combinations(text, size))


def plain_forms(letters, depth, most):
    """The first texts with each words read, among all texts up to some length."""
    firsts = {}
    for text in support.all_words(letters, most):
        firsts.setdefault(plain_reads(depth, text), text)
    return list(firsts.values())


def counting(letters, many, ends):
    """A machine that tells how many letters a text has, up to a number."""
    return Finite(letters, [[min(state + 1, many)] * len(letters) for state in range(many + 1)], ends)


def is_seen(finite, depth, most):
    """Whether texts up to some length that are read alike to a depth are both let or both not."""
    told = {}
    for text in support.all_words(finite.letters(), most):
        own = support.plain_lets(finite, text)
        if told.setdefault(plain_reads(depth, text), own) != own:
            return False
    return True


def some_machine(chance):
    """A machine in which letters lead back, or mostly forward."""
    letters, states = chance.choice(["a", "ab", "ab", "abc"]), chance.randint(1, 4)
    if chance.random() < 0.3:
        return support.some_finite(chance, letters, states)
    if chance.random() < 0.2:
        # The first letter, or the first that is not passed over, decides.
        first = [[chance.choice([0, 1, 2]) for _ in letters]]
        return Finite(letters, first + [[1] * len(letters), [2] * len(letters)], [1])
    moves = []
    for state in range(states):
        moves.append([state if chance.random() < 0.4 else chance.randrange(state, states) for _ in letters])
    return Finite(letters, moves, [state for state in range(states) if chance.random() < 0.5])


class Examples(support.TestCase):
    def test_as_they_stand(self):
        self.assertEqual([arches("ab", "abbabaa"), missing("ab", "abbabaa"), how_many_forms("ab", 2),
                          form_numbered("ab", 2, 8)], [(["ab", "ba", "ba"], "a"), (4, 5), 16, "aba"])
        self.assertEqual([sight(EVEN), is_blind_spot(EVEN, ("ring", "", "a", "a", "")), seen_forms(A_THEN_B)],
                         [None, True, (2, ["a", "ab", "abb"])])


class Arches(support.TestCase):
    def test_against_listing(self):
        for letters, most in [("a", 5), ("ab", 7), ("abc", 5)]:
            for text in support.all_words(letters, most):
                found, rest = arches(letters, text)
                self.assertEqual("".join(found) + rest, text)
                for arch in found:
                    self.assertEqual(set(arch), set(letters))
                    self.assertNotEqual(set(arch[:-1]), set(letters))
                self.assertNotEqual(set(rest), set(letters))
                size, number = missing(letters, text)
                self.assertEqual(size, len(found) + 1)
                read = plain_reads(size, text)
                absent = [word for word in support.all_words(letters, size) if word not in read]
                self.assertEqual({len(word) for word in absent}, {size})
                self.assertEqual(len(absent), number)

    def test_edges(self):
        self.assertEqual((arches("a", ""), missing("a", "")), (([], ""), (1, 1)))
        self.assertEqual((arches("abcd", ""), missing("abcd", "")), (([], ""), (1, 4)))
        self.assertEqual((arches("abcd", "dcb"), missing("abcd", "dcb")), (([], "dcb"), (1, 1)))
        self.assertEqual((arches("a", "a" * 300), missing("a", "a" * 300)), ((["a"] * 300, ""), (301, 1)))
        # What is not read in such a text has each letter not behind the one ahead of it.
        self.assertEqual(missing("abcd", "abcd" * 75), (76, math.comb(79, 3)))
        self.assertEqual(missing("ab", "ab" * 150), (151, 152))
        self.assertEqual(self.in_seconds(missing, "abc", "cab" * 100), (101, math.comb(103, 2)))
        self.assertEqual(missing("ab", "a" * 300), (1, 1))
        self.assertEqual(missing("ab", "b" * 299 + "a"), (2, 2))


class HowManyForms(support.TestCase):
    def test_against_listing(self):
        for letters, depth, most in [("a", 0, 3), ("a", 4, 6), ("ab", 0, 3), ("ab", 1, 5), ("ab", 2, 7), ("ab", 3, 11),
                                     ("abc", 1, 5), ("abc", 2, 8), ("abcd", 0, 2), ("abcd", 1, 5)]:
            forms = plain_forms(letters, depth, most)
            self.assertEqual(how_many_forms(letters, depth), len(forms))
            self.assertEqual([form_numbered(letters, depth, number) for number in range(len(forms))], forms)
            self.refuses(InvalidNumber, len(forms), form_numbered, letters, depth, len(forms))
            for text in support.all_words(letters, 4):
                self.assertEqual(form_number(letters, depth, text), forms.index(least_form(depth, text)))

    def test_bound(self):
        self.assertEqual(how_many_forms("a", 599), 600)
        self.assertEqual(form_numbered("a", 599, 599), "a" * 599)
        self.assertEqual(form_number("a", 599, "a" * 300), 300)
        self.assertEqual(how_many_forms("ab", 4), 312)
        for letters, depth in [("a", 600), ("a", FAR), ("ab", 5), ("ab", FAR), ("abc", 3), ("abcd", 2), ("abcd", FAR)]:
            self.in_seconds(self.refuses_number, TooMany, 601, how_many_forms, letters, depth)
            # Many forms are told ahead of a wrong number or text.
            self.refuses_number(TooMany, 601, form_numbered, letters, depth, None)
            self.refuses_number(TooMany, 601, form_number, letters, depth, None)

    def test_long_texts(self):
        number = self.in_seconds(form_number, "ab", 4, "ab" * 150)
        self.assertEqual(form_numbered("ab", 4, number), least_form(4, "ab" * 150))
        self.assertEqual(form_number("ab", 4, "a" * 300), form_number("ab", 4, "aaaa"))


class Sight(support.TestCase):
    def test_by_walking_all_pairs(self):
        chance = support.chance(7701)
        kinds = {}
        for number in range(300):
            finite = some_machine(chance)
            states, most = len(finite.moves()), {"a": 12, "ab": 8, "abc": 5}[finite.letters()]
            spot = blind_spot(finite)
            kinds.setdefault(spot if spot is None else spot[0], []).append(number)
            if spot is None:
                try:
                    depth, forms = seen_forms(finite)
                except TooMany:
                    self.assertEqual(finite.letters(), "abc")
                    self.assertFalse(is_seen(finite, 2, most))
                    continue
                self.assertEqual(sight(finite), depth)
                self.assertLessEqual(depth, states)
                self.assertTrue(is_seen(finite, depth, most))
                if depth:
                    self.assertFalse(is_seen(finite, depth - 1, most))
                for text in support.all_words(finite.letters(), 5):
                    self.assertEqual(support.plain_lets(finite, text), least_form(depth, text) in forms)
                self.assertEqual(forms, sorted(forms, key=support.text_key))
                self.assertTrue(all(least_form(depth, form) == form for form in forms))
            else:
                self.assertIsNone(sight(finite))
                self.assertIsNone(seen_forms(finite))
                self.assertIs(is_blind_spot(finite, spot), True)
                self.check_apart(finite, spot)
        self.assertEqual(set(kinds), {None, "ring", "pair"})
        self.assertGreater(min(len(each) for each in kinds.values()), 10)

    def check_apart(self, finite, spot):
        """Two texts that are read alike, told apart by the machine, for several depths."""
        for depth in range(5):
            if spot[0] == "ring":
                _, start, one, other, behind = spot
                texts = [start + (one + other) * depth + behind, start + (one + other) * depth + one + behind]
            else:
                _, start, first, second, turns, behind = spot
                texts = [start + letter + turns + (first + second) * depth + behind for letter in (first, second)]
            self.assertTrue(read_alike(depth, *texts))
            self.assertNotEqual(support.plain_lets(finite, texts[0]), support.plain_lets(finite, texts[1]))

    def test_edges(self):
        self.assertEqual([seen_forms(NONE), seen_forms(ALL)], [(0, []), (0, [""])])
        self.assertEqual(seen_forms(Finite("ab", [[None, None]], [0])), (1, [""]))
        self.assertEqual(seen_forms(Finite("ab", [[0, 0], [1, 1]], [1])), (0, []))
        self.assertEqual(sight(FIRST), None)
        self.assertEqual(blind_spot(FIRST)[0], "pair")
        self.assertEqual(blind_spot(EVEN)[0], "ring")
        self.assertEqual(sight(counting("a", 5, [5])), 5)
        self.assertEqual(sight(counting("ab", 4, [4])), 4)

    def test_too_many_forms(self):
        # There is a depth, but more than 600 forms to it; then there is no blind spot, either.
        for finite in [counting("ab", 5, [5]), counting("abc", 3, [3]), counting("abc", 5, [1, 3, 5])]:
            self.in_seconds(self.refuses_number, TooMany, 601, sight, finite)
            self.refuses_number(TooMany, 601, seen_forms, finite)
            self.assertIsNone(blind_spot(finite))
        self.assertEqual(sight(counting("abc", 2, [2])), 2)
        # No depth is told ahead of too many forms.
        rounds = Finite("abc", [[1, 1, 1], [2, 2, 2], [3, 3, 3], [4, 4, 4], [5, 5, 5], [4, 4, 4]], [4])
        self.assertIsNone(self.in_seconds(sight, rounds))


class Spots(support.TestCase):
    def plain_leads_alike(self, finite, one, other, most=5):
        return all(support.plain_lets(finite, one + end) == support.plain_lets(finite, other + end)
                   for end in support.all_words(finite.letters(), most))

    def plain_is_spot(self, finite, value):
        letters = finite.letters()
        over = support.is_plain_over(letters)
        if type(value) is not tuple or len(value) < 5 or not all(over(text) for text in value[1:]):
            return False
        if value[0] == "ring" and len(value) == 5:
            _, start, one, other, behind = value
            return self.plain_leads_alike(finite, start, start + one + other) and (
                support.plain_lets(finite, start + behind) != support.plain_lets(finite, start + one + behind))
        if value[0] == "pair" and len(value) == 6:
            _, start, first, second, turns, behind = value
            if len(first) != 1 or len(second) != 1 or not set(turns) <= {first, second}:
                return False
            ends = [start + letter + turns for letter in (first, second)]
            alike = all(self.plain_leads_alike(finite, end, end + letter) for end in ends for letter in (first, second))
            return alike and support.plain_lets(finite, ends[0] + behind) != support.plain_lets(finite, ends[1] + behind)
        return False

    def test_bent_papers(self):
        chance = support.chance(7801)
        told = []
        for _ in range(120):
            finite = some_machine(chance)
            letters = finite.letters()
            spot = blind_spot(finite) or ("ring", "", "a", "a", "")
            values = [spot]
            for at in range(len(spot)):
                for wrong in [None, 1, "", "a", letters[-1], "ring", "pair", "z", "A", ["a"], ("a",), "aa",
                              support.some_text(chance, letters, 2)]:
                    values.append(spot[:at] + (wrong,) + spot[at + 1:])
                values.append(spot[:at] + spot[at + 1:])
            values += [spot + ("",), list(spot), ("ring",) + spot[1:], ("pair",) + spot[1:], (), ("ring",), None]
            for value in values:
                found = is_blind_spot(finite, value)
                self.assertIs(type(found), bool)
                self.assertEqual(found, self.plain_is_spot(finite, value), (finite.moves(), finite.ends(), value))
                told.append(found)
        self.assertGreater(sum(told), 100)

    def test_all_short_papers(self):
        for finite in [FIRST, A_THEN_B, Finite("ab", [[1, 0], [0, 1]], [0])]:
            words = support.all_words("ab", 2)
            for texts in itertools.product(words[:4], words[:3], words, words[:4]):
                value = ("ring",) + texts
                self.assertEqual(is_blind_spot(finite, value), self.plain_is_spot(finite, value))
            for start, turns, behind in itertools.product(words[:4], words, words[:4]):
                for first, second in itertools.product("ab", repeat=2):
                    value = ("pair", start, first, second, turns, behind)
                    self.assertEqual(is_blind_spot(finite, value), self.plain_is_spot(finite, value))

    def test_at_the_limits(self):
        chance = support.chance(7802)
        for _ in range(40):
            finite = support.some_finite(chance, "abc", 6, 0.1)
            spot = self.in_seconds(blind_spot, finite)
            if spot is not None:
                self.assertTrue(is_blind_spot(finite, spot))
                self.check_long(finite, spot)

    def check_long(self, finite, spot):
        if spot[0] == "ring":
            long = spot[:2] + (spot[2] + (spot[3] + spot[2]) * 100,) + spot[3:]
            self.assertTrue(self.in_seconds(is_blind_spot, finite, long))


class Wrong(support.TestCase):
    def test_order(self):
        for wrong in [None, 1, "ba", "", "abcde", ["a"]]:
            for call in [arches, missing, how_many_forms]:
                self.refuses(InvalidLetters, wrong, call, wrong, None)
            for call in [form_number, form_numbered]:
                self.refuses(InvalidLetters, wrong, call, wrong, None, None)
        for wrong in [None, True, -1, "1", [1]]:
            self.refuses(InvalidNumber, wrong, how_many_forms, "ab", wrong)
            for call in [form_number, form_numbered]:
                self.refuses(InvalidNumber, wrong, call, "ab", wrong, None)
        for wrong in [None, 1, "c", "A", "abc", ["a"]]:
            for call in [arches, missing]:
                self.refuses(InvalidText, wrong, call, "ab", wrong)
            self.refuses(InvalidText, wrong, form_number, "ab", 2, wrong)
        for wrong in [None, True, -1, 16, "1", FAR]:
            self.refuses(InvalidNumber, wrong, form_numbered, "ab", 2, wrong)
        for wrong in [None, 1, "a", [[0]], ("ab", [[0, 0]], [0])]:
            for call in [sight, seen_forms, blind_spot]:
                self.refuses(InvalidFinite, wrong, call, wrong)
            self.refuses(InvalidFinite, wrong, is_blind_spot, wrong, None)
