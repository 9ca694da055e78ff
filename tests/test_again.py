"""Points [36] to [39]: rules that are done again and again."""

import itertools
import math
from fractions import Fraction

from skipcounts.again import again_row, again_since, is_zero_paper, parting_again, parting_row, rules_growth
from skipcounts.again import worth_again, zero_paper
from skipcounts.binomials import row_value
from skipcounts.errors import InvalidList, InvalidNumber, InvalidRules, InvalidSum, InvalidText
from skipcounts.rules import led
from skipcounts.sums import Sum, plus, times
from tests import support
from tests.test_rules import WRONG_RULES, plain_done, some_rules

GROWN, TWIST, SWAP = [("a", "ab"), ("b", "a")], [("a", "ab"), ("b", "ba")], [("a", "b"), ("b", "a")]
AB, BOTH, ODDS = Sum([("ab", 1)]), Sum([("ab", 1), ("ba", -1)]), Sum([("a", 1), ("b", -1)])


def far_text(rules, text, many):
    for _ in range(many):
        text = plain_done(rules, text)
    return text


def row_text(choices, row, text):
    for number in row:
        text = plain_done(choices[number], text)
    return text


def all_rows(many, size):
    return [list(row) for length in range(size + 1) for row in itertools.product(range(many), repeat=length)]


def counts_of(words, text):
    """By letters one after the other, as the texts are long."""
    found = []
    for word in words:
        numbers = [1] + [0] * len(word)
        for sign in text:
            for at in reversed(range(len(word))):
                if word[at] == sign:
                    numbers[at + 1] += numbers[at]
        found.append(numbers[-1])
    return found


def fast_worth(total, text):
    counts = counts_of([word for word, _ in total.terms()], text)
    return sum(number * own for (_, number), own in zip(total.terms(), counts))


def call_words(total, choices, text):
    signs = "".join(word for word, _ in total.terms()) + text + "".join(a + b for rules in choices for a, b in rules)
    return support.all_words("".join(sorted(set(signs))), max(total.degree(), 0))


def no_powers(chance, letters):
    """Rules whose letters lead to later ones, or round about."""
    order = list(letters)
    chance.shuffle(order)
    rules = []
    for at, letter in enumerate(order):
        after = order[at + 1:]
        image = [chance.choice(after) for _ in range(chance.randint(0, 2))] if after else []
        if chance.random() < 0.5:
            image.insert(chance.randint(0, len(image)), letter)
        rules.append((letter, "".join(image)))
    return sorted(rules)


class Examples(support.TestCase):
    def test_as_they_stand(self):
        self.assertEqual([led(AB, GROWN).terms(), led(BOTH, TWIST).terms(), again_row(Sum([("a", 1)]), GROWN),
                          again_row(BOTH, TWIST)],
                         [[('a', 1), ('aa', 1), ('ba', 1)], [('a', 1), ('b', -1)], [1, 1], [0, 0]])
        self.assertEqual([worth_again(AB, TWIST, "a", 3), worth_again(Sum([("a", 1)]), GROWN, "a", 10, by=10),
                          parting_again(BOTH, Sum([]), TWIST, "a"), parting_again(BOTH, Sum([]), TWIST, "abba")],
                         [8, 9, 1, None])
        self.assertEqual([parting_row(BOTH, Sum([]), [TWIST, SWAP], "abba"),
                          parting_row(BOTH, Sum([]), [SWAP, GROWN], "abba"), zero_paper(ODDS, [SWAP], "ab"),
                          zero_paper(ODDS, [SWAP], "a")],
                         [None, [1], ([[]], [([0], [(1, 1)])]), None])
        self.assertEqual([rules_growth(GROWN), rules_growth(SWAP), again_since(AB, [("a", "ab")], "a", 0),
                          again_since(Sum([("b", 1)]), [("a", "b"), ("b", "")], "a", 0)],
                         [('powers', 'a'), ('rows', 2), (0, [0, 1]), (2, [])])


class WorthAgain(support.TestCase):
    def test_against_writing_out(self):
        chance = support.chance(3601)
        for letters, degree in [("a", 4), ("ab", 2), ("ab", 3), ("abc", 1), ("abcd", 2)]:
            for _ in range(8):
                rules = some_rules(chance, letters, letters, 2)
                total = support.some_sum(chance, letters, 4, degree)
                text = support.some_text(chance, letters, 3)
                for many in range(6):
                    worth = fast_worth(total, far_text(rules, text, many))
                    self.assertEqual(worth_again(total, rules, text, many), worth)
                    self.assertEqual(worth_again(total, rules, text, many, None), worth)
                    for by in [1, 2, 7, 10 ** 29]:
                        self.assertEqual(worth_again(total, rules, text, many, by), worth % by)

    def test_far_on(self):
        numbers = [0, 1]
        for _ in range(200):
            numbers.append(numbers[-1] + numbers[-2])
        self.assertEqual(worth_again(Sum([("a", 1)]), GROWN, "a", 60), numbers[61])
        self.assertEqual(worth_again(Sum([("a", 1)]), GROWN, "a", 150, 10 ** 9), numbers[151] % 10 ** 9)
        far = 10 ** 29
        self.assertEqual(worth_again(Sum([("a", 1)]), [("a", "aa")], "a", far, 7), pow(2, far, 7))
        self.assertEqual(worth_again(Sum([("b", 1)]), [("a", "ab")], "aab", far), 2 * far + 1)
        self.assertEqual(worth_again(Sum([("bb", 1)]), [("a", "ab")], "a", far), far * (far - 1) // 2)
        self.assertEqual(worth_again(ODDS, SWAP, "aab", far), 1)
        self.assertEqual(worth_again(ODDS, SWAP, "aab", far + 1), -1)
        self.assertEqual(worth_again(ODDS, SWAP, "aab", far + 1, 5), 4)

    def test_edges(self):
        self.assertEqual(worth_again(Sum([]), GROWN, "ab", 10 ** 29, 5), 0)
        self.assertEqual(worth_again(Sum([]), SWAP, "ab", 10 ** 29), 0)
        self.assertEqual(worth_again(Sum([("", 7)]), GROWN, "ab", 59), 7)
        self.assertEqual(worth_again(AB, [], "aab", 10 ** 29), 2)
        self.assertEqual(worth_again(AB, [("a", ""), ("b", "")], "aab", 1), 0)
        self.assertEqual(worth_again(AB, [("a", ""), ("b", "")], "aab", 0), 2)
        self.assertEqual(worth_again(AB, GROWN, "", 50), 0)
        self.assertEqual(worth_again(Sum([("z", 3)]), GROWN, "zz", 50), 6)

    def test_wrong_arguments(self):
        for wrong in [None, True, -1, "1", [1]]:
            self.refuses(InvalidNumber, wrong, worth_again, AB, GROWN, "a", wrong, "by")
        for wrong in [True, False, 0, -1, "1", [1]]:
            self.refuses(InvalidNumber, wrong, worth_again, AB, GROWN, "a", 3, wrong)
        self.refuses(InvalidText, None, worth_again, AB, GROWN, None, None)
        self.refuses(InvalidRules, None, worth_again, AB, None, None, None)
        self.refuses(InvalidSum, None, worth_again, None, None, None, None)
        for wrong in WRONG_RULES:
            self.refuses(InvalidRules, wrong, worth_again, AB, wrong, None, None)
            self.refuses(InvalidRules, wrong, again_row, AB, wrong)
            self.refuses(InvalidRules, wrong, parting_again, AB, AB, wrong, None)
            self.refuses(InvalidRules, wrong, rules_growth, wrong)
            self.refuses(InvalidRules, wrong, again_since, AB, wrong, None, None)
            for choices in [[wrong], [GROWN, wrong], [GROWN, SWAP, wrong]]:
                self.refuses(InvalidRules, wrong, parting_row, AB, AB, choices, None)
                self.refuses(InvalidRules, wrong, zero_paper, AB, choices, None)
                self.refuses(InvalidRules, wrong, is_zero_paper, AB, choices, None, None)


class AgainRow(support.TestCase):
    def test_shortest(self):
        chance = support.chance(3602)
        for letters, degree in [("a", 4), ("ab", 2), ("ab", 3), ("abc", 1), ("abcd", 1)]:
            words = support.all_words(letters, degree)
            for _ in range(12):
                rules = some_rules(chance, letters, letters, 3)
                total = support.some_sum(chance, letters, 3, degree)
                row = again_row(total, rules)
                self.assertLessEqual(len(row), len(words))
                sums = [total]
                for _ in row:
                    sums.append(led(sums[-1], rules))
                made = Sum([])
                for number, own in zip(row, sums):
                    made = plus(made, times(number, own))
                self.assertEqual(made, sums[-1])
                lists = [[dict(own.terms()).get(word, 0) for word in words] for own in sums[:-1]]
                self.assertEqual(support.plain_rank(lists), len(row))

    def test_edges(self):
        self.assertEqual(again_row(Sum([]), GROWN), [])
        self.assertEqual(again_row(Sum([("", 3)]), GROWN), [1])
        self.assertEqual(again_row(AB, []), [1])
        self.assertEqual(again_row(Sum([("a", 5)]), [("a", "")]), [0])
        self.assertEqual(again_row(Sum([("a", 5)]), [("a", "aaa")]), [3])


class PartingAgain(support.TestCase):
    def test_against_writing_out(self):
        chance = support.chance(3603)
        seen = set()
        for _ in range(120):
            letters = chance.choice(["ab", "abc"])
            rules = some_rules(chance, letters, letters, 2)
            one, other = [support.some_sum(chance, letters, 2, 2, 1) for _ in "12"]
            text = support.some_text(chance, letters, 2)
            size = len(support.all_words(letters, 2))
            apart = [many for many in range(8) if fast_worth(one, far_text(rules, text, many))
                     != fast_worth(other, far_text(rules, text, many))]
            found = parting_again(one, other, rules, text)
            seen.add(found)
            if found is None or found >= 8:
                self.assertEqual(apart, [])
                self.assertTrue(found is None or found < size)
            else:
                self.assertEqual(apart[0], found)
        self.assertLessEqual({None, 0, 1}, seen)

    def test_late(self):
        chain = [("a", "b"), ("b", "c"), ("c", "d"), ("d", "")]
        self.assertEqual(parting_again(Sum([("d", 1)]), Sum([]), chain, "a"), 3)
        self.assertEqual(parting_again(Sum([("d", 1), ("z", 1)]), Sum([("z", 1)]), chain, "a"), 3)
        self.assertIsNone(parting_again(AB, AB, GROWN, "a"))
        self.refuses(InvalidSum, None, parting_again, None, None, None, None)
        self.refuses(InvalidSum, None, parting_again, AB, None, None, None)
        self.refuses(InvalidText, None, parting_again, AB, AB, [], None)


class Rows(support.TestCase):
    def test_first_parting_row(self):
        chance = support.chance(3604)
        seen = set()
        for _ in range(80):
            choices = [some_rules(chance, "ab", "ab", 2) for _ in range(chance.randint(1, 3))]
            one, other = [support.some_sum(chance, "ab", 2, 2, 1) for _ in "12"]
            text = support.some_text(chance, "ab", chance.randint(0, 4))
            apart = [row for row in all_rows(len(choices), 4) if fast_worth(one, row_text(choices, row, text))
                     != fast_worth(other, row_text(choices, row, text))]
            found = parting_row(one, other, choices, text)
            seen.add(None if found is None else len(found))
            if found is None or len(found) > 4:
                self.assertEqual(apart, [])
            else:
                self.assertEqual(apart[0], found)
        self.assertLessEqual({None, 0, 1}, seen)

    def test_order_of_the_rules(self):
        first, second = [("a", "b")], [("b", "c")]
        self.assertEqual(parting_row(Sum([("c", 1)]), Sum([]), [first, second], "a"), [0, 1])
        self.assertEqual(parting_row(Sum([("c", 1)]), Sum([]), [second, first], "a"), [1, 0])

    def check_paper(self, total, choices, text, paper):
        rows, shares = paper
        words = call_words(total, choices, text)
        counts = [counts_of(words, row_text(choices, row, text)) for row in rows]
        self.assertEqual(rows, sorted(rows, key=lambda row: (len(row), row)))
        for at, row in enumerate(rows):
            self.assertFalse(support.is_made(counts[:at], counts[at]))
            self.assertTrue(row == [] or row[:-1] in rows)
        needed = [row + [number] for row in rows for number in range(len(choices)) if row + [number] not in rows]
        self.assertEqual([row for row, _ in shares], needed)
        for row, fractions in shares:
            target = counts_of(words, row_text(choices, row, text))
            made = [sum(Fraction(*fraction) * own[at] for fraction, own in zip(fractions, counts))
                    for at in range(len(words))]
            self.assertEqual(made, target)
            for fraction, own in zip(fractions, rows):
                self.assertEqual((Fraction(*fraction).numerator, Fraction(*fraction).denominator), fraction)
                if (len(own), own) > (len(row), row):
                    self.assertEqual(fraction, (0, 1))

    def test_zero_paper(self):
        chance = support.chance(3605)
        seen = {True: 0, False: 0}
        for _ in range(120):
            letters = chance.choice(["ab", "abc"])
            choices = [some_rules(chance, letters, letters, 2) for _ in range(chance.randint(1, 3))]
            total = support.some_sum(chance, letters, 2, 2, 1)
            text = support.some_text(chance, letters, chance.randint(0, 3))
            paper = zero_paper(total, choices, text)
            is_none = parting_row(total, Sum([]), choices, text) is not None
            seen[is_none] += 1
            self.assertEqual(paper is None, is_none)
            if paper is not None:
                self.assertTrue(is_zero_paper(total, choices, text, paper))
                if len(paper[0][-1]) < 5:
                    self.check_paper(total, choices, text, paper)
        self.assertGreater(min(seen.values()), 10)

    def test_fractions(self):
        choices, total = [[("a", "b"), ("b", "bbb")], [("a", "bbb"), ("b", "bb")]], Sum([("c", 1)])
        paper = zero_paper(total, choices, "a")
        self.check_paper(total, choices, "a", paper)
        self.assertEqual(paper[0], [[], [0], [1]])
        self.assertEqual(paper[1][1], ([0, 1], [(0, 1), (1, 2), (1, 2)]))
        self.assertEqual(zero_paper(Sum([]), [GROWN], "ab"), ([[]], [([0], [(1, 1)])]))

    def test_is_zero_paper(self):
        choices, total, text = [SWAP, [("a", "bb"), ("b", "aa")]], Sum([("c", 1), ("ac", -2)]), "aab"
        rows, shares = zero_paper(total, choices, text)
        self.assertTrue(is_zero_paper(total, choices, text, (rows, shares)))
        self.assertGreater(len(rows), 2)
        wrong = [
            None, (), (rows,), [rows, shares], (rows, shares, shares), (tuple(rows), shares), (rows, tuple(shares)),
            (rows[1:], shares), (rows[:-1], shares), (rows[::-1], shares), (rows + rows[-1:], shares), ([], []),
            (rows, shares[1:]), (rows, shares[::-1]), (rows, shares + shares[-1:]), (rows, []), ([[]], []),
            (rows, [(row, tuple(fractions)) for row, fractions in shares]),
            (rows, [(tuple(row), fractions) for row, fractions in shares]),
            (rows, [[row, fractions] for row, fractions in shares]),
            (rows, [(row, fractions + [(0, 1)]) for row, fractions in shares]),
            (rows, [(row, fractions[:-1]) for row, fractions in shares]),
            (rows, [(row, [list(fraction) for fraction in fractions]) for row, fractions in shares]),
            (rows, [(row, [(number * 2, by * 2) for number, by in fractions]) for row, fractions in shares]),
            (rows, [(row, [(-number, -by) for number, by in fractions]) for row, fractions in shares]),
            (rows, [(row, [(number + 1, by) for number, by in fractions]) for row, fractions in shares]),
            (rows, [(row, [(number, True) if by == 1 else (number, by) for number, by in fractions])
                    for row, fractions in shares]),
            ([[False if number == 0 else number for number in row] for row in rows], shares),
            ([tuple(row) for row in rows], shares), ([row + [2] for row in rows], shares), ([None], shares),
        ]
        for value in wrong + support.any_values():
            self.assertIs(is_zero_paper(total, choices, text, value), False, value)
        self.assertIs(is_zero_paper(Sum([("a", 1)]), choices, text, (rows, shares)), False)

    def test_other_papers(self):
        # Rows more than are needed, with fractions told in several ways.
        rows, shares = [[], [0]], [([0, 0], [(1, 1), (0, 1)])]
        self.assertTrue(is_zero_paper(ODDS, [SWAP], "ab", (rows, shares)))
        self.assertTrue(is_zero_paper(ODDS, [[]], "ab", (rows, [([0, 0], [(-1, 2), (3, 2)])])))
        self.assertFalse(is_zero_paper(ODDS, [[]], "ab", (rows, [([0, 0], [(-1, 2), (1, 2)])])))
        self.assertFalse(is_zero_paper(ODDS, [SWAP], "a", ([[]], [([0], [(1, 1)])])))

    def test_rows_in_order_and_with_all_beginnings(self):
        # All of these have the right fractions, but for what is wrong with their rows.
        def paper(rows, choices):
            needed = [row + [at] for row in rows for at in range(len(choices)) if row + [at] not in rows]
            first = [(1, 1)] + [(0, 1)] * (len(rows) - 1)
            return rows, [(row, list(first)) for row in needed]
        both = [[], []]
        for rows, choices, right in [
                ([[]], both, True), ([[], [0]], both, True), ([[], [0], [1]], both, True), ([[], [1], [0]], both, False),
                ([[0], []], both, False), ([[], [0], [0]], both, False), ([[], []], both, False),
                ([[], [0, 0]], both, False), ([[], [0], [0, 1]], both, True), ([[], [0], [1, 1]], both, False),
                ([[], [0, 1], [0]], both, False), ([[], [1]], [[]], False), ([[], [0], [0, 0]], [[]], True),
                ([[], [-1]], both, False), ([[], [2]], both, False), ([], both, False), ([[0]], both, False),
                ([[], [0], [1], [0, 0], [1, 0], [0, 1]], both, False),
                ([[], [0], [1], [0, 0], [0, 1], [1, 0]], both, True)]:
            self.assertIs(is_zero_paper(ODDS, choices, "ab", paper(rows, choices)), right, rows)
        # A row that stands twice is told once.
        self.assertIs(is_zero_paper(ODDS, both[:1], "ab", ([[], [0], [0]], [([0, 0], [(1, 1), (0, 1), (0, 1)])])), False)

    def test_fractions_of_all_kinds(self):
        for fraction, right in [((1, 1), True), ((2, 2), False), ((True, 1), False), ((1, True), False), ((None, 1), False),
                                (("1", 1), False), ((1, None), False), ((1,), False), ((1, 1, 1), False), ((-1, -1), False),
                                ((0, 1), False), ((1, 0), False), ((1, 2), False), ([1, 1], False), (1, False), (None, False)]:
            self.assertIs(is_zero_paper(ODDS, [SWAP], "ab", ([[]], [([0], [fraction])])), right, fraction)
        self.assertIs(is_zero_paper(ODDS, [SWAP], "ab", ([[]], [([False], [(1, 1)])])), False)

    def test_wrong_choices(self):
        for wrong in [None, True, 1, "ab", (), (GROWN,), {}, [], [GROWN] * 4, [None] * 4]:
            self.refuses(InvalidList, wrong, parting_row, AB, AB, wrong, None)
            self.refuses(InvalidList, wrong, zero_paper, AB, wrong, None)
            self.refuses(InvalidList, wrong, is_zero_paper, AB, wrong, None, None)
        self.refuses(InvalidRules, None, zero_paper, AB, [GROWN, None, True], None)
        self.refuses(InvalidSum, None, parting_row, AB, None, None, None)
        self.refuses(InvalidText, None, parting_row, AB, AB, [GROWN], None)
        self.refuses(InvalidText, None, zero_paper, AB, [GROWN], None)
        self.refuses(InvalidText, None, is_zero_paper, AB, [GROWN], None, None)


def ways_round(rules, letter, most):
    """The lengths of all ways round of at most so many places, by going along them."""
    images = dict(rules)
    found, heads = [], [letter]
    for size in range(1, most + 1):
        after = [sign for head in heads for sign in images.get(head, head)]
        found.extend([size] * after.count(letter))
        heads = [sign for sign in after if sign != letter]
    return found


class Growth(support.TestCase):
    def test_against_ways_round(self):
        chance = support.chance(3606)
        seen = set()
        for _ in range(300):
            letters = chance.choice(["a", "ab", "abc", "abcd"])
            rules = some_rules(chance, letters, letters + "z", 2)
            ways = {letter: ways_round(rules, letter, 8) for letter in letters}
            powers = [letter for letter in letters if len(ways[letter]) > 1]
            if powers:
                expected = ("powers", powers[0])
            else:
                expected = ("rows", math.lcm(*[size for sizes in ways.values() for size in sizes]))
            self.assertEqual(rules_growth(rules), expected, rules)
            seen.add(expected)
        self.assertLessEqual({("rows", 1), ("rows", 2), ("powers", "a"), ("powers", "b")}, seen)

    def test_edges(self):
        self.assertEqual(rules_growth([]), ("rows", 1))
        self.assertEqual(rules_growth([("a", "")]), ("rows", 1))
        self.assertEqual(rules_growth([("a", "bbb")]), ("rows", 1))
        self.assertEqual(rules_growth([("z", "zz")]), ("powers", "z"))
        self.assertEqual(rules_growth([("a", "b"), ("b", "bb")]), ("powers", "b"))
        self.assertEqual(rules_growth([("a", "b"), ("b", "c"), ("c", "d"), ("d", "a")]), ("rows", 4))
        self.assertEqual(rules_growth([("a", "b"), ("b", "c"), ("c", "a"), ("d", "da")]), ("rows", 3))
        self.assertEqual(rules_growth([("a", "bc"), ("b", "a"), ("c", "a")]), ("powers", "a"))


class Since(support.TestCase):
    def test_against_writing_out(self):
        chance = support.chance(3607)
        later = 0
        for _ in range(80):
            letters = chance.choice(["a", "ab", "abc"])
            rules = no_powers(chance, letters)
            if chance.random() < 0.3:
                rules = [("a", "b"), ("b", chance.choice(["a", "ac", "ca"]))]
            kind, period = rules_growth(rules)
            self.assertEqual(kind, "rows")
            total = support.some_sum(chance, letters, 3, chance.choice([1, 2]))
            text = support.some_text(chance, letters, chance.randint(0, 3))
            for rest in range(period):
                since, row = again_since(total, rules, text, rest)
                worths = [fast_worth(total, far_text(rules, text, rest + period * at)) for at in range(9)]
                later += since > 0
                for at in range(since, 9):
                    self.assertEqual(row_value(row, at - since), worths[at])
                if since > 0:
                    # No count ahead: the row that goes on from there would have another worth.
                    values = [row_value(row, at) for at in range(9)]
                    steps = [worths[since - 1]] + values
                    for _ in range(len(row) + 1):
                        steps = [after - ahead for ahead, after in zip(steps, steps[1:])]
                    self.assertTrue(any(steps))
        self.assertGreater(later, 5)

    def test_edges(self):
        self.assertEqual(again_since(Sum([]), SWAP, "a", 1), (0, []))
        self.assertEqual(again_since(Sum([("", 5)]), SWAP, "a", 1), (0, [5]))
        self.assertEqual(again_since(AB, [], "aab", 0), (0, [2]))
        self.assertEqual(again_since(ODDS, SWAP, "aab", 0), (0, [1]))
        self.assertEqual(again_since(ODDS, SWAP, "aab", 1), (0, [-1]))
        self.assertEqual(again_since(Sum([("a", 1)]), [("a", "")], "aab", 0), (1, []))

    def test_wrong_arguments(self):
        for powers in [GROWN, TWIST, [("z", "zz")]]:
            self.refuses(InvalidRules, powers, again_since, AB, powers, None, None)
        for wrong in [None, True, False, -1, 2, "0", 10 ** 29]:
            self.refuses(InvalidNumber, wrong, again_since, AB, SWAP, "a", wrong)
        self.refuses(InvalidNumber, 1, again_since, AB, [], "a", 1)
        self.refuses(InvalidText, None, again_since, AB, SWAP, None, None)
        self.refuses(InvalidSum, None, again_since, None, GROWN, None, None)


class Limits(support.TestCase):
    def test_end_within_seconds(self):
        chance = support.chance(3608)
        letters = "abcdefghijklmnopqrst"
        circle = [("a", "b" + "efg" * 6), ("b", "ceeee"), ("c", "d"), ("d", "a" + "tsr" * 6)]
        for total, rules in [
                (Sum([(letter, 10 ** 29) for letter in letters]), [("a", "ab" * 10), ("b", letters), ("c", ""), (
                    "d", "ddc")]),
                (Sum([(letter, 10 ** 29) for letter in letters]), circle),
                (support.some_sum(chance, "abcd", 40, 2, 10 ** 29), [(letter, "abcd" * 5) for letter in "abcd"]),
                (support.some_sum(chance, "abcd", 40, 2, 10 ** 29), [("a", "bd"), ("b", "ccdd"), ("c", "a")]),
                (support.some_sum(chance, "ab", 15, 3, 10 ** 29), [("a", "ab" * 10), ("b", "ba" * 10)]),
                (Sum([("a" * size, 10 ** 29 - size) for size in range(21)]), [("a", "a" * 20)])]:
            text = "".join(chance.choice("abcd" if len(total.terms()) != 21 else "a") for _ in range(300))
            row = self.in_seconds(again_row, total, rules)
            self.assertLessEqual(len(row), 21)
            self.in_seconds(worth_again, total, rules, text, 10 ** 29, 10 ** 29 - 3)
            kind, period = rules_growth(rules)
            self.in_seconds(worth_again, total, rules, text, 60 if kind == "powers" else 10 ** 29)
            self.in_seconds(parting_again, total, Sum([]), rules, text)
            if kind == "rows":
                self.in_seconds(again_since, total, rules, text, period - 1)
            choices = [rules, [("a", "b"), ("b", "a")], [("a", "")]]
            if len(call_words(total, choices, text)) <= 21:
                self.assertIsNone(self.in_seconds(parting_row, total, total, choices, text))
                self.in_seconds(zero_paper, total, choices, text)
        total, choices = Sum([("cd", 1), ("dc", -1), ("aa", 0)]), [SWAP, GROWN, TWIST]
        paper = self.in_seconds(zero_paper, total, choices, "abd" * 100)
        self.assertTrue(self.in_seconds(is_zero_paper, total, choices, "abd" * 100, paper))
