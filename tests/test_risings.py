"""Point [53]: worths on the texts of a finite machine, and texts by which they rise."""

from skipcounts.errors import InvalidFinite, InvalidSum, TooMany
from skipcounts.finites import Finite, lets
from skipcounts.risings import is_rising, rising, worths_on
from skipcounts.sums import Sum
from tests import support

TURNS = Finite("ab", [[1, None], [None, 0]], [0, 1])
ODDS, AB = Sum([("a", 1), ("b", -1)]), Sum([("ab", 1)])
ALL = Finite("ab", [[0, 0]], [0])


def plain_worths(finite, total, size):
    found = {}
    for text in support.all_words(finite.letters(), size):
        if support.plain_lets(finite, text):
            found.setdefault(support.plain_worth(total, text), text)
    return list(found.items())


def plain_is_rising(finite, total, value):
    """By the first ten texts, for parts that are not longer than the machine is wide."""
    head, part, behind = value
    texts = [head + part * many + behind for many in range(10)]
    worths = [total.worth(text) for text in texts]
    return all(lets(finite, text) for text in texts) and len(set(worths)) > 1


class Examples(support.TestCase):
    def test_as_they_stand(self):
        self.assertEqual([worths_on(TURNS, ODDS), rising(TURNS, ODDS), worths_on(TURNS, AB),
                          is_rising(TURNS, AB, ("", "ab", ""))], [[(0, ""), (1, "a")], None, None, True])


class Worths(support.TestCase):
    def some_cases(self, number, many):
        chance = support.chance(number)
        for _ in range(many):
            letters = chance.choice(["a", "ab", "ab", "abc"])
            finite = support.some_finite(chance, letters, chance.randint(1, 4), chance.choice([0, 0.4, 0.6]))
            total = support.some_sum(chance, letters + "z", chance.randint(0, 3), 3, 2)
            yield finite, total

    def test_against_all_texts(self):
        seen = {}
        for finite, total in self.some_cases(5301, 400):
            found, risen = worths_on(finite, total), rising(finite, total)
            self.assertEqual(found is None, risen is not None)
            if found is None:
                self.assertTrue(plain_is_rising(finite, total, risen))
                self.assertIs(is_rising(finite, total, risen), True)
                seen[None] = seen.get(None, 0) + 1
            else:
                states = len(finite.moves())
                self.assertEqual(found, plain_worths(finite, total, min(states + 2, 5)))
                for _, text in found:
                    self.assertLess(len(text), states)
                seen[len(found)] = seen.get(len(found), 0) + 1
        self.assertLessEqual({None, 0, 1, 2}, set(seen))

    def test_is_rising(self):
        chance = support.chance(5302)
        seen = {True: 0, False: 0}
        for finite, total in self.some_cases(5303, 400):
            value = tuple(support.some_text(chance, finite.letters(), chance.randint(0, 3)) for _ in range(3))
            expected = plain_is_rising(finite, total, value)
            self.assertIs(is_rising(finite, total, value), expected)
            seen[expected] += 1
        self.assertGreater(min(seen.values()), 10)

    def test_edges(self):
        empty = Finite("ab", [[0, 0]], [])
        self.assertEqual((worths_on(empty, AB), rising(empty, AB)), ([], None))
        only = Finite("ab", [[None, None]], [0])
        self.assertEqual((worths_on(only, AB), rising(only, AB)), ([(0, "")], None))
        self.assertEqual(worths_on(ALL, Sum([])), [(0, "")])
        self.assertEqual(worths_on(ALL, Sum([("", 5), ("z", 1), ("az", 3)])), [(5, "")])
        self.assertIsNone(worths_on(ALL, Sum([("a", 1)])))
        # The letter that makes the sum rise leads to no end.
        self.assertEqual(worths_on(Finite("ab", [[0, 1], [1, 1]], [0]), Sum([("b", 1)])), [(0, "")])
        self.assertEqual(worths_on(Finite("ab", [[0, 1], [1, None]], [1]), Sum([("b", 1)])), [(1, "b")])
        # Round about nothing is brought, but on the way.
        round_about = Finite("ab", [[1, None], [2, 2], [3, None], [None, 0]], [0, 1, 2, 3])
        self.assertIsNone(worths_on(round_about, ODDS))
        self.assertEqual(worths_on(Finite("ab", [[1, None], [2, None], [None, 3], [None, 0]], [0, 1, 2, 3]), ODDS),
                         [(0, ""), (1, "a"), (2, "aa")])

    def test_the_way_back_rises_later(self):
        # The worths with the part taken once and not at all are equal; the count of "aa" less that of "a".
        one = Sum([("aa", 1), ("b", 3)])
        finite = Finite("ab", [[0, None]], [0])
        self.assertTrue(is_rising(finite, one, ("", "a", "")))
        self.assertEqual([one.worth("a" * many) for many in range(3)], [0, 0, 1])
        self.assertFalse(is_rising(finite, one, ("", "", "")))
        self.assertFalse(is_rising(finite, one, ("", "b", "")))
        # A part that leads from state to state and only then round about.
        long_way = Finite("a", [[1], [2], [3], [1]], [0, 1, 2, 3])
        self.assertTrue(is_rising(long_way, Sum([("a", 1)]), ("", "a", "")))
        self.assertFalse(is_rising(Finite("a", [[1], [2], [3], [1]], [0, 1, 2]), Sum([("a", 1)]), ("", "a", "")))

    def test_any_value(self):
        for wrong in [None, ["", "ab", ""], ("", "ab"), ("", "ab", "", ""), ("", "AB", ""), ("", "abc", ""), "abc",
                      (None, "ab", ""), ("", 1, ""), ("", ["ab"], ""), (("", "ab", ""),)] + support.any_values()[:60]:
            self.assertIs(is_rising(TURNS, AB, wrong), False)


class Wrong(support.TestCase):
    def test_arguments(self):
        many = Sum([("a" * 40, 1)])
        forty = Sum([("a" * 39, 1), ("z" * 60, 1)])
        calls = [worths_on, rising, lambda finite, total: is_rising(finite, total, None)]
        for call in calls:
            self.refuses(InvalidFinite, None, call, None, None)
            for wrong in [None, "a", [("a", 1)], ALL]:
                self.refuses(InvalidSum, wrong, call, ALL, wrong)
            self.refuses_number(TooMany, 41, call, ALL, many)
            self.refuses_number(TooMany, 41, call, Finite("ab", [[0, 0]], []), many)
            # Words with other letters count as 0, so they do no harm.
            call(Finite("b", [[0]], [0]), many)
            call(ALL, forty)


class Limits(support.TestCase):
    def test_end_within_seconds(self):
        chance = support.chance(5304)
        states = list(range(8))
        for letters in ["a", "ab", "abcd"]:
            ways = [[[(state + 1) % 8 for _ in letters] for state in states],
                    [[state + 1 if state < 7 else None for _ in letters] for state in states],
                    [[(state * 3 + at) % 8 for at in range(len(letters))] for state in states],
                    [[state if at == 0 else (state + 1 if state < 7 else None) for at in range(len(letters))]
                     for state in states]]
            for moves in ways:
                finite = Finite(letters, moves, states)
                for own in [letters, letters[1:] or "z"]:
                    for many in [1, 3]:
                        total = Sum([(support.some_text(chance, own, 12), chance.choice([1, support.BIG]))
                                     for _ in range(many)])
                        self.in_seconds(worths_on, finite, total)
                        found = self.in_seconds(rising, finite, total)
                        if found is not None:
                            self.assertTrue(self.in_seconds(is_rising, finite, total, found))
                        far = tuple(support.some_text(chance, letters, 300) for _ in range(3))
                        self.in_seconds(is_rising, finite, total, far)
