"""Points [57] to [60]: sets told by rests."""

import itertools

from skipcounts.errors import InvalidFinite, InvalidNumber, InvalidText, TooMany
from skipcounts.finites import Finite
from skipcounts.rests import rest_set
from skipcounts.restsets import bar, expansion, is_bar, is_rest_parts, marks, rest_parts, told_by
from skipcounts.sums import Sum
from tests import support

EVEN, ENDS = Finite("ab", [[1, 0], [0, 1]], [0]), Finite("ab", [[1, 0], [1, 0]], [1])
SIX = Finite("a", [[1], [2], [3], [4], [5], [0]], [0])
EMPTY, FULL = Finite("ab", [[0, 0]], []), Finite("ab", [[0, 0]], [0])
PRIMES = [number for number in range(2, 98) if all(number % low for low in range(2, number))]


def mark(finite, text):
    return int(support.plain_lets(finite, text))


def plain_least(finite):
    """The moves and marks of the least machine: states are the ways in which texts go on, read off long enough."""
    letters, states = finite.letters(), len(finite.moves())
    table = finite.moves() + [[None] * len(letters)]
    moves = [[states if move is None else move for move in row] for row in table]
    kinds = [int(state in finite.ends()) for state in range(states + 1)]
    for _ in moves:
        rows = [(kinds[state], tuple(kinds[move] for move in row)) for state, row in enumerate(moves)]
        order = sorted(set(rows))
        kinds = [order.index(row) for row in rows]
    numbers, rest = {kinds[0]: 0}, [0]
    for state in rest:
        for move in moves[state]:
            if kinds[move] not in numbers:
                numbers[kinds[move]] = len(numbers)
                rest.append(move)
    return ([[numbers[kinds[move]] for move in moves[state]] for state in rest],
            [int(state in finite.ends()) for state in rest])


def all_leads(moves):
    """To where all texts lead from all states, by putting letters behind."""
    letters = [tuple(row[at] for row in moves) for at in range(len(moves[0]))]
    found = {tuple(range(len(moves)))}
    rest = list(found)
    for lead in rest:
        for letter in letters:
            after = tuple(letter[state] for state in lead)
            if after not in found:
                found.add(after)
                rest.append(after)
    return found


def comes_back(lead):
    """How often a text has to be taken from each state to come back to it; None where it does not."""
    found = []
    for state in range(len(lead)):
        reached, turn = lead[state], 1
        while reached != state and turn <= len(lead):
            reached, turn = lead[reached], turn + 1
        found.append(turn if reached == state else None)
    return found


def is_power(prime, number):
    return any(prime ** exponent == number for exponent in range(12))


def is_told(moves, prime):
    return all(turn is not None and is_power(prime, turn) for lead in all_leads(moves) for turn in comes_back(lead))


def some_set(chance, most=5):
    """A machine whose letters lead unlike states to unlike ones, or any machine."""
    letters, states = chance.choice(["a", "ab", "ab", "abc"]), chance.randint(1, most)
    ends = [state for state in range(states) if chance.random() < 0.5]
    if chance.random() < 0.3:
        return support.some_finite(chance, letters, states, 0.1)
    columns = []
    for _ in letters:
        column = list(range(states))
        if chance.random() < 0.7:
            chance.shuffle(column)
        columns.append(column)
    return Finite(letters, [list(row) for row in zip(*columns)], ends)


class Examples(support.TestCase):
    def test_as_they_stand(self):
        odd = rest_set("ab", Sum([("ab", 1)]), 2, [1])
        self.assertEqual([expansion(ENDS, 2), told_by(EVEN, 2) == Sum([("", 1), ("a", 1)]),
                          told_by(odd, 2) == Sum([("ab", 1)]), told_by(EVEN, 3), told_by(ENDS, 2)],
                         [[("a", 1), ("aa", -1), ("ab", -1)], True, True, None, None])
        self.assertEqual([marks(EVEN, "", "a", ""), marks(ENDS, "", "a", ""), is_bar(EVEN, 3, ("", "a", "")),
                          is_bar(EVEN, 2, ("", "a", "")), is_bar(ENDS, 5, ("", "a", "")), bar(EVEN, 2)],
                         [([], [1, 0]), ([0], [1]), True, False, True, None])
        self.assertEqual([rest_parts(SIX), rest_parts(ENDS), is_rest_parts(EVEN, [(2, [[1, 0], [0, 1]], [0, 1])]),
                          is_rest_parts(EVEN, [])],
                         [[(2, [[1], [0]], [0, 1, 0, 1, 0, 1]), (3, [[1], [2], [0]], [0, 1, 2, 0, 1, 2])], None,
                          True, False])


class Expansion(support.TestCase):
    def test_by_leaving_out_places(self):
        chance = support.chance(5701)
        for _ in range(25):
            finite = support.some_finite(chance, chance.choice(["a", "ab", "abc"]), chance.randint(1, 4), 0.2)
            depth = chance.randint(0, 4)
            expected = []
            for word in support.all_words(finite.letters(), depth):
                number = 0
                for kept in itertools.product([False, True], repeat=len(word)):
                    left = "".join(sign for sign, stays in zip(word, kept) if stays)
                    number += (-1) ** (len(word) - len(left)) * mark(finite, left)
                if number:
                    expected.append((word, number))
            found = expansion(finite, depth)
            self.assertEqual(found, expected)
            for text in support.all_words(finite.letters(), depth):
                self.assertEqual(Sum(found).worth(text), mark(finite, text))

    def test_edges(self):
        self.assertEqual(expansion(EMPTY, 6), [])
        self.assertEqual(expansion(FULL, 6), [("", 1)])
        self.assertEqual(expansion(Finite("ab", [[None, None]], [0]), 1), [("", 1), ("a", -1), ("b", -1)])
        for wrong in [-1, 7, None, True, "1"]:
            self.refuses(InvalidNumber, wrong, expansion, EVEN, wrong)
        self.refuses(InvalidFinite, None, expansion, None, None)


class ToldBy(support.TestCase):
    def test_against_all_texts(self):
        chance = support.chance(5801)
        seen = {True: 0, False: 0}
        for _ in range(120):
            finite = some_set(chance, 4)
            moves, _ = plain_least(finite)
            for prime in [2, 3, 5]:
                found = told_by(finite, prime)
                self.assertEqual(found is not None, is_told(moves, prime))
                self.assertEqual(bar(finite, prime) is None, found is not None)
                seen[found is None] += 1
                if found is None:
                    self.assertTrue(self.plain_is_bar(finite, prime, bar(finite, prime)))
                    self.assertIs(is_bar(finite, prime, bar(finite, prime)), True)
                else:
                    self.assertLess(found.degree(), len(moves))
                    self.assertTrue(all(0 < number < prime for _, number in found.terms()))
                    self.assertTrue(all(set(word) <= set(finite.letters()) for word, _ in found.terms()))
                    for text in support.all_words(finite.letters(), 4):
                        self.assertEqual(support.plain_worth(found, text) % prime, mark(finite, text))
        self.assertGreater(min(seen.values()), 60)

    def plain_is_bar(self, finite, prime, value):
        """By many marks: they come round from the beginning on with a power of the prime, or it is a bar."""
        head, part, end = value
        row = [mark(finite, head + part * many + end) for many in range(40)]
        return not any(row[turn:] == row[:-turn] for turn in [prime ** exponent for exponent in range(4)] if turn < 25)

    def test_sums_told_back(self):
        for prime, total in [(2, Sum([("ab", 1)])), (2, Sum([("aba", 1), ("b", 1)])), (3, Sum([("ab", 2), ("", 1)])),
                             (5, Sum([("a", 2), ("b", 3)])), (97, Sum([("a", 5)]))]:
            letters = "ab" if total.degree() > 1 or prime < 97 else "a"
            for rest in range(2):
                finite = rest_set(letters, total, prime, [rest])
                if len(finite.moves()) <= 100:
                    found = told_by(finite, prime)
                    for text in support.all_words(letters, 5):
                        self.assertEqual(found.worth(text) % prime, int(total.worth(text) % prime == rest))

    def test_edges(self):
        for prime in [2, 3, 97]:
            self.assertEqual(told_by(EMPTY, prime), Sum([]))
            self.assertEqual(told_by(FULL, prime), Sum([("", 1)]))
            self.assertIsNone(told_by(ENDS, prime))
            self.assertIsNone(told_by(Finite("ab", [[None, None]], [0]), prime))
        # States more than are needed do no harm.
        self.assertEqual(told_by(Finite("ab", [[1, 2], [2, 3], [3, 0], [0, 1]], [0, 2]), 2), Sum([("", 1), ("a", 1)]))

    def test_bounds(self):
        # With n letters, all alike, a set by their number and a prime has a power of n of terms of each length.
        def by_length(letters, prime, ends):
            return Finite(letters, [[(state + 1) % prime] * len(letters) for state in range(prime)], ends)
        self.assertEqual(len(told_by(by_length("ab", 11, [10]), 11).terms()), 2 ** 10)
        self.assertEqual(len(told_by(by_length("ab", 11, [0]), 11).terms()), 2 ** 11 - 1)
        self.refuses_number(TooMany, 3001, told_by, by_length("ab", 13, [12]), 13)
        self.refuses_number(TooMany, 3001, told_by, by_length("ab", 13, [0]), 13)
        self.refuses_number(TooMany, 3001, told_by, by_length("abcd", 59, [58]), 59)
        self.assertEqual(len(told_by(by_length("abc", 7, [0]), 7).terms()), (3 ** 7 - 1) // 2)
        self.assertEqual(len(told_by(by_length("a", 59, [0]), 59).terms()), 59)

    def test_3000_terms_and_one_more(self):
        # By how often "a" and "b" stand in a text, both by 7; and by the sum of the one and 3 times the other, by 16.
        both = [[(state + 7) % 49, state - state % 7 + (state + 1) % 7] for state in range(49)]
        mixed = [[(state + 1) % 16, (state + 3) % 16] for state in range(16)]
        for moves, prime, let, refused in [(both, 7, [5, 15, 30, 40, 44], [11, 44]),
                                           (mixed, 2, [2, 3, 6, 7, 10, 14], [1, 3, 4, 5, 8, 15])]:
            found = told_by(Finite("ab", moves, let), prime)
            self.assertEqual(len(found.terms()), 3000)
            chance = support.chance(5802)
            for size in range(30):
                text = support.some_text(chance, "ab", size)
                self.assertEqual(found.worth(text) % prime, mark(Finite("ab", moves, let), text))
            self.refuses_number(TooMany, 3001, told_by, Finite("ab", moves, refused), prime)

    def test_how_many_terms(self):
        # By how often "a" and "b" stand in a text, both by 5.
        found = {}
        for ends in [[0], [1], [2], [0, 1], [5], [9, 10], [24], [1, 7, 13]]:
            moves = [[(state + 5) % 25, state - state % 5 + (state + 1) % 5] for state in range(25)]
            finite = Finite("ab", moves, ends)
            words = self.terms_of(finite, 5, 8)
            if words > 3000:
                self.refuses_number(TooMany, 3001, told_by, finite, 5)
            else:
                self.assertEqual(len(told_by(finite, 5).terms()), words)
            found[tuple(ends)] = words
        self.assertGreater(len(set(found.values())), 3)

    def terms_of(self, finite, prime, degree):
        """How many words of at most so many letters have a number that the prime does not divide."""
        moves = finite.moves()
        level = [[int(state in finite.ends()) for state in range(len(moves))]]
        found = 0
        for _ in range(degree + 1):
            found += sum(row[0] != 0 for row in level)
            level = [[(row[moves[state][at]] - row[state]) % prime for state in range(len(moves))]
                     for row in level for at in range(2)]
            level = [row for row in level if any(row)]
        return found

    def test_wrong_arguments(self):
        for call in [told_by, bar, lambda finite, prime: is_bar(finite, prime, None)]:
            self.refuses(InvalidFinite, None, call, None, None)
            for wrong in [number for number in range(-3, 110) if number not in PRIMES] + [101, None, True, "2", [2], (2,)]:
                self.refuses(InvalidNumber, wrong, call, EVEN, wrong)
            for prime in PRIMES:
                call(EVEN, prime)


class Marks(support.TestCase):
    def test_against_listing(self):
        chance = support.chance(5901)
        seen = set()
        for _ in range(900):
            finite = some_set(chance) if chance.random() < 0.6 else support.some_finite(chance, "a", 6, 0)
            head, part, end = [support.some_text(chance, finite.letters(), chance.randint(0, 3)) for _ in range(3)]
            row = [mark(finite, head + part * many + end) for many in range(40)]
            turn = min(turn for turn in range(1, 13) if row[13:] == row[13 - turn:-turn])
            first = min(size for size in range(14) if row[size + turn:] == row[size:-turn])
            found = marks(finite, head, part, end)
            self.assertEqual(found, (row[:first], row[first:first + turn]))
            seen.add((len(found[0]) > 0, len(found[1]) > 1))
        self.assertEqual(len(seen), 4)

    def test_edges(self):
        self.assertEqual(marks(EMPTY, "", "", ""), ([], [0]))
        self.assertEqual(marks(EVEN, "a", "", "b"), ([], [0]))
        only = Finite("ab", [[None, None]], [0])
        self.assertEqual(marks(only, "", "a", ""), ([1], [0]))
        self.assertEqual(marks(only, "a", "a", ""), ([], [0]))
        self.assertEqual(marks(SIX, "a", "aa", "aaa"), ([], [0, 1, 0]))
        far = Finite("a", [[state + 1] for state in range(599)] + [[599]], [599])
        self.assertEqual(marks(far, "", "a", ""), ([0] * 599, [1]))

    def test_wrong_arguments(self):
        self.refuses(InvalidFinite, None, marks, None, None, None, None)
        for wrong in ["c", "A", None, 1, ["a"]]:
            self.refuses(InvalidText, wrong, marks, EVEN, wrong, "x", "y")
            self.refuses(InvalidText, wrong, marks, EVEN, "", wrong, "y")
            self.refuses(InvalidText, wrong, marks, EVEN, "", "", wrong)


class Bars(support.TestCase):
    def test_is_bar(self):
        chance = support.chance(5902)
        seen = {True: 0, False: 0}
        for _ in range(200):
            finite, prime = some_set(chance), chance.choice([2, 3, 5])
            value = tuple(support.some_text(chance, finite.letters(), chance.randint(0, 3)) for _ in range(3))
            first, turn = marks(finite, *value)
            expected = first != [] or not is_power(prime, len(turn))
            self.assertIs(is_bar(finite, prime, value), expected)
            seen[expected] += 1
        self.assertGreater(min(seen.values()), 20)

    def test_long_bars(self):
        self.assertTrue(is_bar(EVEN, 3, ("", "a" * 1001, "b" * 1000)))
        self.assertFalse(is_bar(EVEN, 3, ("", "a" * 1000, "b" * 1000)))

    def test_any_machine(self):
        chance = support.chance(5903)
        for _ in range(150):
            finite = support.some_finite(chance, chance.choice(["a", "ab"]), 7, 0.05)
            for prime in [2, 3, 5]:
                found = bar(finite, prime)
                self.assertEqual(found is None, told_by(finite, prime) is not None)
                if found is not None:
                    self.assertIs(is_bar(finite, prime, found), True)
        for first, turn in [(1, 1), (1, 4), (5, 2), (2, 5), (3, 4), (6, 1)]:
            moves = [[state + 1] for state in range(first + turn - 1)] + [[first]]
            for ends in [[0], [first], [first + turn - 1], [0, first + turn - 1]]:
                finite = Finite("a", moves, ends)
                for prime in [2, 3, 5]:
                    found = bar(finite, prime)
                    self.assertEqual(found is None, told_by(finite, prime) is not None)
                    self.assertTrue(found is None or is_bar(finite, prime, found))

    def test_any_value(self):
        for wrong in [None, ["", "a", ""], ("", "a"), ("", "a", "", ""), ("", "A", ""), ("", "abc", ""), "aaa",
                      (None, "a", ""), ("", 1, ""), ("", ["a"], "")] + support.any_values():
            if wrong != ("", "a", ""):
                self.assertIs(is_bar(EVEN, 3, wrong), False)

    def test_letters_of_a_prime_whose_texts_are_not(self):
        # Both letters go round in three states each, but texts of them in two, too.
        finite = Finite("ab", [[1, 0], [2, 2], [0, 3], [3, 1]], [0])
        self.assertIsNone(told_by(finite, 3))
        found = bar(finite, 3)
        self.assertTrue(is_bar(finite, 3, found))
        self.assertTrue(is_bar(finite, 2, bar(finite, 2)))


class Parts(support.TestCase):
    def check(self, finite, found):
        moves, _ = plain_least(finite)
        self.assertEqual([prime for prime, _, _ in found], sorted({prime for prime, _, _ in found}))
        sizes = 1
        for prime, part, spots in found:
            self.assertIn(prime, PRIMES)
            self.assertGreaterEqual(len(part), 2)
            sizes *= len(part)
            self.assertTrue(is_told(part, prime))
            for state, row in enumerate(moves):
                self.assertEqual([spots[move] for move in row], part[spots[state]])
            self.assertEqual(list(dict.fromkeys(spots)), list(range(len(part))))
            self.assertEqual(len(spots), len(moves))
        self.assertEqual(sizes, len(moves))
        self.assertEqual(len(set(zip(*[spots for _, _, spots in found]))), len(moves) if found else 0)

    def can_be_parted(self, moves):
        """Whether each letter is made of texts for unlike primes, of which those for one all go round alike."""
        leads = all_leads(moves)
        if any(None in comes_back(lead) for lead in leads):
            return False

        def order(lead):
            turn, reached = 1, lead
            while list(reached) != list(range(len(lead))):
                turn, reached = turn + 1, tuple(lead[state] for state in reached)
            return turn
        orders = [order(lead) for lead in leads]
        product = 1
        for prime in PRIMES:
            product *= sum(is_power(prime, own) for own in orders)
        return product == len(leads)

    def test_against_all_texts(self):
        chance = support.chance(6001)
        seen = {}
        for _ in range(250):
            finite = some_set(chance, 6)
            moves, _ = plain_least(finite)
            if len(all_leads(moves)) > 1000:
                continue
            found = rest_parts(finite)
            self.assertEqual(found is not None, self.can_be_parted(moves))
            key = None if found is None else len(found)
            seen[key] = seen.get(key, 0) + 1
            if found is not None:
                self.check(finite, found)
                self.assertIs(is_rest_parts(finite, found), True)
        self.assertLessEqual({None, 0, 1, 2}, set(seen))

    def test_put_together(self):
        moves = [[((state + 1) % 2) + 2 * (state // 2), state % 2 + 2 * ((state // 2 + 1) % 15)] for state in range(30)]
        finite = Finite("ab", moves, [0, 7])
        found = rest_parts(finite)
        self.assertEqual([(prime, len(part)) for prime, part, _ in found], [(2, 2), (3, 3), (5, 5)])
        self.check(finite, found)

    def test_edges(self):
        self.assertEqual(rest_parts(EMPTY), [])
        self.assertEqual(rest_parts(FULL), [])
        self.assertEqual(rest_parts(Finite("a", [[1], [0]], [0, 1])), [])
        self.assertTrue(is_rest_parts(FULL, []))
        self.assertFalse(is_rest_parts(FULL, ()))
        self.assertFalse(is_rest_parts(FULL, None))
        self.assertIsNone(rest_parts(Finite("ab", [[None, None]], [0])))
        self.assertEqual(rest_parts(EVEN), [(2, [[1, 0], [0, 1]], [0, 1])])
        # Six states, of which a text leads round in two and one in three, but not one by itself.
        self.assertIsNone(rest_parts(Finite("ab", [[1, 1], [2, 0], [0, 2]], [0])))

    def test_any_value(self):
        right = rest_parts(SIX)
        (two, moves, spots), three = right
        wrong = [
            None, tuple(right), right[:1], right[::-1], right + [three], [], [list(right[0]), three],
            [(two, moves), three], [(two, moves, spots, spots), three], [(3, moves, spots), three],
            [(two, tuple(moves), spots), three], [(two, [(1,), (0,)], spots), three], [(two, moves[::-1], spots), three],
            [(two, [[True], [0]], spots), three], [(two, moves, [False] + spots[1:]), three],
            [(two, moves, tuple(spots)), three], [(two, moves, spots[:-1]), three], [(two, moves, spots + [0]), three],
            [(two, moves, [1 - spot for spot in spots]), three], [(True, moves, spots), three], {}, "ab",
        ]
        for value in wrong + support.any_values():
            self.assertIs(is_rest_parts(SIX, value), False)
            self.assertIs(is_rest_parts(ENDS, value), False)
        self.assertIs(is_rest_parts(SIX, right), True)
        self.refuses(InvalidFinite, None, rest_parts, None)
        self.refuses(InvalidFinite, None, is_rest_parts, None, None)


class Limits(support.TestCase):
    def refused(self, *given):
        try:
            return told_by(*given)
        except TooMany as error:
            return error.value

    def test_end_within_seconds(self):
        chance = support.chance(6002)
        for letters in ["a", "ab", "abcd"]:
            for states in [59, 60]:
                moves = [[(state + at + 1) % states for at in range(len(letters))] for state in range(states)]
                turned = [[state * (at * 2 + 1) % states for at in range(len(letters))] for state in range(states)]
                some = support.some_finite(chance, letters, states, 0)
                for finite in [Finite(letters, moves, [states - 1]), Finite(letters, moves, list(range(0, states, 2))),
                               Finite(letters, turned, [1, 2]), some]:
                    for prime in [2, 59]:
                        self.in_seconds(self.refused, finite, prime)
                    parts = self.in_seconds(rest_parts, finite)
                    self.assertIs(self.in_seconds(is_rest_parts, finite, parts), parts is not None)
                    self.in_seconds(expansion, finite, 6)
        many = Finite("abcd", [[(state * 7 + at) % 600 for at in range(4)] for state in range(600)], [5])
        self.in_seconds(expansion, many, 6)
        self.in_seconds(marks, many, *[support.some_text(chance, "abcd", 300) for _ in range(3)])
        for _ in range(30):
            columns = [chance.sample(range(7), 7) for _ in "abcd"]
            finite = Finite("abcd", [list(row) for row in zip(*columns)], [0, 3])
            for prime in [2, 3, 7, 97]:
                found = self.in_seconds(bar, finite, prime)
                self.assertEqual(found is None, told_by(finite, prime) is not None)
