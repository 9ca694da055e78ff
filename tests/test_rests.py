"""Points [54] to [56]: rests of sums."""

import itertools

from skipcounts.errors import InvalidFinite, InvalidLetters, InvalidList, InvalidNumber, InvalidSum, TooMany
from skipcounts.finites import Finite, lets
from skipcounts.rests import by_rest, first_with, how_many_with, rest_set, rest_states, rests_taken
from skipcounts.sums import Sum
from tests import support

ENDS = Finite("ab", [[1, 0], [1, 0]], [1])
AB, A, AA = Sum([("ab", 1)]), Sum([("a", 1)]), Sum([("aa", 1)])


def some_case(chance, letters, many, depth=3):
    sums = [support.some_sum(chance, letters + "z", chance.randint(0, 3), depth) for _ in range(many)]
    return sums, chance.choice([2, 3, 4, 6])


def over(letters, total):
    return Sum([(word, number) for word, number in total.terms() if set(word) <= set(letters)])


def rests_at(letters, sums, number, text):
    return [support.plain_worth(over(letters, total), text) % number for total in sums]


class Examples(support.TestCase):
    def test_as_they_stand(self):
        odd = rest_set("ab", AB, 2, [1])
        self.assertEqual([by_rest(Sum([("a", 5), ("ab", -2)]), 2) == A, rest_states("ab", [AB], 2), odd.ends()],
                         [True, ([[1, 0], [0, 2], [3, 1], [2, 3]], [[0], [0], [1], [1]]), [2, 3]])
        self.assertEqual([rests_taken("a", [A, AA], 2), how_many_with("ab", [AB], 2, [1], 3), first_with(ENDS, AB, 3, [2])],
                         [[([0, 0], ""), ([1, 0], "a"), ([0, 1], "aa"), ([1, 1], "aaa")], 2, "aaba"])


class ByRest(support.TestCase):
    def test_numbers(self):
        self.assertEqual(by_rest(Sum([("a", -1), ("b", 10 ** 29), ("", 7)]), 10).terms(), [("", 7), ("a", 9)])
        self.assertEqual(by_rest(Sum([]), 10000), Sum([]))
        chance = support.chance(5401)
        for _ in range(60):
            one, other = [support.some_sum(chance, "ab", 3, 2, 3) for _ in "12"]
            for number in [2, 3, 5]:
                same = all(support.plain_worth(one, text) % number == support.plain_worth(other, text) % number
                           for text in support.all_words("ab", 2))
                self.assertEqual(by_rest(one, number) == by_rest(other, number), same)

    def test_wrong_arguments(self):
        for wrong in [0, 1, 10001, -2, None, True, "2"]:
            self.refuses(InvalidNumber, wrong, by_rest, A, wrong)
        self.refuses(InvalidSum, None, by_rest, None, None)


class States(support.TestCase):
    def check(self, letters, sums, number, size):
        moves, rests = rest_states(letters, sums, number)
        table = Finite(letters, moves, [])
        firsts = {}
        for text in support.all_words(letters, size):
            state = support.plain_state(table, text)
            self.assertEqual(rests[state], rests_at(letters, sums, number, text))
            firsts.setdefault(state, text)
        self.assertEqual(list(firsts), list(range(len(firsts))))
        for at in range(len(letters)):
            self.assertEqual(sorted(row[at] for row in moves), list(range(len(moves))))
        # No two states tell the same behind all texts.
        kinds = [tuple(row) for row in rests]
        for _ in moves:
            kinds = [(kinds[state], tuple(kinds[move] for move in row)) for state, row in enumerate(moves)]
            numbers = {kind: at for at, kind in enumerate(sorted(set(kinds), key=repr))}
            kinds = [numbers[kind] for kind in kinds]
        self.assertEqual(len(set(kinds)), len(moves))
        return len(moves)

    def test_against_all_texts(self):
        chance = support.chance(5501)
        seen = set()
        for letters, size in [("a", 14), ("ab", 6), ("abc", 4)]:
            for _ in range(25):
                sums, number = some_case(chance, letters, chance.randint(1, 3), 2)
                try:
                    seen.add(self.check(letters, sums, number, size))
                except TooMany as error:
                    self.assertIn(error.value, (601, 6001))
        self.assertGreater(len(seen), 6)

    def test_edges(self):
        self.assertEqual(rest_states("ab", [Sum([])], 2), ([[0, 0]], [[0]]))
        self.assertEqual(rest_states("ab", [Sum([("", -1), ("z", 1), ("a", 6)])], 3), ([[0, 0]], [[2]]))
        self.assertEqual(rest_states("a", [A] * 6, 2), ([[1], [0]], [[0] * 6, [1] * 6]))
        # Behind the first letter it matters which other sum there is.
        self.assertEqual(len(rest_states("a", [AA], 2)[0]), 4)
        self.assertEqual(len(rest_states("a", [AA, A], 3)[0]), 3)

    def plain_lists(self, letters, sums, number):
        """How many unlike lists the counts of all beginnings make, by going from letter to letter."""
        words = {word for total in sums for word, own in total.terms() if own % number and set(word) <= set(letters)}
        beginnings = sorted({word[:size] for word in words for size in range(len(word) + 1)} | {""})
        start = tuple(int(own == "") for own in beginnings)
        seen, rest = {start}, [start]
        while rest:
            counts = dict(zip(beginnings, rest.pop()))
            for letter in letters:
                after = tuple((counts[own] + (counts[own[:-1]] if own.endswith(letter) else 0)) % number
                              for own in beginnings)
                if after not in seen and len(seen) <= 6001:
                    seen.add(after)
                    rest.append(after)
        return min(len(seen), 6001)

    def test_bounds(self):
        self.assertEqual(len(rest_states("a", [A], 600)[0]), 600)
        self.refuses_number(TooMany, 601, rest_states, "a", [A], 601)
        self.refuses_number(TooMany, 601, rest_states, "a", [A], 6000)
        self.refuses_number(TooMany, 6001, rest_states, "a", [A], 6001)
        self.refuses_number(TooMany, 6001, rest_states, "a", [A], 10000)
        self.refuses_number(TooMany, 601, rest_states, "a", [AA], 2048)
        self.refuses_number(TooMany, 6001, rest_states, "a", [AA], 4096)
        self.refuses_number(TooMany, 601, rest_states, "ab", [AB], 77)
        self.refuses_number(TooMany, 6001, rest_states, "ab", [AB], 78)
        self.assertEqual(len(rest_states("ab", [Sum([("ab", 7)])], 77)[0]), 121)
        self.refuses_number(TooMany, 6001, rest_states, "ab", [Sum([("ab", 13)])], 78)
        # 6,000 lists, but as few as two states; a number that the given one divides makes no list.
        half = Sum([("a", 3000)])
        self.assertEqual(rest_states("a", [half], 6000), ([[1], [0]], [[0], [3000]]))
        self.refuses_number(TooMany, 6001, rest_states, "a", [Sum([("a", 5000)])], 10000)
        self.assertEqual(len(rest_states("a", [Sum([("a", 10000)])], 10000)[0]), 1)
        self.assertEqual(len(rest_states("ab", [Sum([("b" * 12, 10000), ("z" * 12, 1)])], 10000)[0]), 1)

    def test_which_error(self):
        chance = support.chance(5502)
        seen = set()
        for _ in range(40):
            letters = chance.choice(["a", "ab", "abc"])
            sums, _ = some_case(chance, letters, chance.randint(1, 3), 3)
            sums = sums[:1] if chance.random() < 0.5 else [Sum([(letters[:2], 1)])]
            number = chance.choice([2, 3, 4, 26, 80])
            lists = self.plain_lists(letters, sums, number)
            try:
                states = len(rest_states(letters, sums, number)[0])
            except TooMany as error:
                self.assertEqual(error.value, 6001 if lists > 6000 else 601)
                seen.add(error.value)
            else:
                self.assertLessEqual(lists, 6000)
                self.assertLessEqual(states, lists)
                seen.add(0)
        self.assertEqual(seen, {0, 601, 6001})

    def test_wrong_arguments(self):
        calls = [lambda *given: rest_states(*given), lambda *given: rests_taken(*given),
                 lambda *given: how_many_with(*given, None, None)]
        for call in calls:
            self.refuses(InvalidLetters, "ba", call, "ba", None, None)
            for wrong in [None, [], [A] * 7, (A,), [A, None], [None], A, {}, ["a"], [[A]]]:
                self.refuses(InvalidList, wrong, call, "ab", wrong, None)
            for wrong in [0, 1, 10001, -2, None, True, "2"]:
                self.refuses(InvalidNumber, wrong, call, "ab", [A], wrong)


class Taken(support.TestCase):
    def test_against_all_texts(self):
        chance = support.chance(5601)
        for letters, size in [("a", 12), ("ab", 6)]:
            for _ in range(25):
                sums, number = some_case(chance, letters, chance.randint(1, 2), 2)
                try:
                    found = rests_taken(letters, sums, number)
                except TooMany:
                    continue
                firsts = {}
                for text in support.all_words(letters, size):
                    firsts.setdefault(tuple(rests_at(letters, sums, number, text)), text)
                short = [(rests, text) for rests, text in found if len(text) <= size]
                self.assertEqual(short, [(list(rests), text) for rests, text in firsts.items()])
                for many in range(5):
                    for rests in itertools.product(range(number), repeat=len(sums)):
                        expected = sum(rests_at(letters, sums, number, "".join(signs)) == list(rests)
                                       for signs in itertools.product(letters, repeat=many))
                        self.assertEqual(how_many_with(letters, sums, number, list(rests), many), expected)

    def test_far(self):
        self.assertEqual(how_many_with("abcd", [Sum([])], 2, [0], 300), 4 ** 300)
        self.assertEqual(how_many_with("ab", [A], 2, [1], 300), 2 ** 299)
        self.assertEqual(how_many_with("ab", [A], 2, [1], 0), 0)
        self.refuses_number(TooMany, 6001, rests_taken, "a", [A], 6001)
        self.refuses_number(TooMany, 601, how_many_with, "a", [A], 601, [0], 1)

    def test_wrong_arguments(self):
        for wrong in [None, [], [0, 0], [2], [-1], [True], (1,), [None], ["0"], {}]:
            self.refuses(InvalidList, wrong, how_many_with, "a", [A], 2, wrong, None)
        for wrong in [-1, 301, None, True, "1"]:
            self.refuses(InvalidNumber, wrong, how_many_with, "a", [A], 2, [1], wrong)
            # The numbers of lists and states are looked at behind all arguments.
            self.refuses(InvalidNumber, wrong, how_many_with, "a", [A], 10000, [1], wrong)


class Sets(support.TestCase):
    def test_against_all_texts(self):
        chance = support.chance(5602)
        for letters, size in [("a", 14), ("ab", 6), ("abc", 4)]:
            for _ in range(25):
                (total,), number = some_case(chance, letters, 1, 2)
                rests = [rest for rest in range(number) if chance.random() < 0.5]
                try:
                    found = rest_set(letters, total, number, rests)
                except TooMany:
                    continue
                firsts = {}
                for text in support.all_words(letters, size):
                    worth = support.plain_worth(over(letters, total), text)
                    self.assertIs(lets(found, text), worth % number in rests)
                    firsts.setdefault(support.plain_state(found, text), text)
                self.assertEqual(list(firsts), list(range(len(firsts))))
                self.check_fewest(found)

    def check_fewest(self, finite):
        """No two states let the same texts behind them."""
        moves = finite.moves()
        apart = {(one, two) for one in range(len(moves)) for two in range(len(moves))
                 if (one in finite.ends()) != (two in finite.ends())}
        while True:
            more = {(one, two) for one in range(len(moves)) for two in range(len(moves))
                    if any(pair in apart for pair in zip(moves[one], moves[two]))} - apart
            if not more:
                break
            apart |= more
        self.assertEqual(len(apart), len(moves) * (len(moves) - 1))
        self.assertFalse(any(None in row for row in moves))

    def test_edges(self):
        self.assertEqual(rest_set("ab", AB, 2, []), Finite("ab", [[0, 0]], []))
        self.assertEqual(rest_set("ab", AB, 2, [0, 1]), Finite("ab", [[0, 0]], [0]))
        self.assertEqual(rest_set("a", A, 4, [1, 3]), Finite("a", [[1], [0]], [1]))
        self.assertEqual(len(rest_set("a", A, 600, [599]).moves()), 600)
        self.refuses_number(TooMany, 601, rest_set, "a", A, 601, [])
        self.refuses_number(TooMany, 6001, rest_set, "a", A, 6001, [])

    def test_first_text(self):
        chance = support.chance(5603)
        seen = set()
        for letters, size in [("a", 14), ("ab", 7)]:
            for _ in range(60):
                (total,), number = some_case(chance, letters, 1, 2)
                finite = support.some_finite(chance, letters, chance.randint(1, 4), 0.3)
                rests = [rest for rest in range(number) if chance.random() < 0.3]
                try:
                    found = first_with(finite, total, number, rests)
                except TooMany:
                    continue
                texts = [text for text in support.all_words(letters, size) if support.plain_lets(finite, text)
                         and support.plain_worth(over(letters, total), text) % number in rests]
                if found is None or len(found) > size:
                    self.assertEqual(texts, [])
                else:
                    self.assertEqual(found, texts[0])
                seen.add(found if found is None else len(found))
        self.assertLessEqual({None, 0, 1, 2}, seen)

    def test_wrong_arguments(self):
        sets = [lambda *given: rest_set("ab", *given), lambda *given: first_with(ENDS, *given)]
        for call in sets:
            for wrong in [None, [A], "a"]:
                self.refuses(InvalidSum, wrong, call, wrong, None, None)
            for wrong in [0, 1, 10001, None, True]:
                self.refuses(InvalidNumber, wrong, call, A, wrong, None)
            for wrong in [None, [2], [1, 0], [0, 0], [-1], [True], [False, 1], (0,), {}, ["0"], [None]]:
                self.refuses(InvalidList, wrong, call, A, 2, wrong)
            wrong = [10000]
            self.refuses(InvalidList, wrong, call, A, 10000, wrong)
        self.refuses(InvalidLetters, "ba", rest_set, "ba", None, None, None)
        self.refuses(InvalidFinite, "ba", first_with, "ba", None, None, None)
        self.refuses_number(TooMany, 601, first_with, ENDS, A, 601, [])
        self.refuses_number(TooMany, 6001, first_with, Finite("a", [[0]], []), A, 6001, [])


class Limits(support.TestCase):
    def test_end_within_seconds(self):
        chance = support.chance(5604)
        many = [Sum([(support.some_text(chance, "abcd", 12), 1) for _ in range(40)]) for _ in range(6)]

        def refused(*given):
            try:
                rest_states(*given)
            except TooMany as error:
                return error.value
            return None
        self.assertEqual(self.in_seconds(refused, "abcd", many, 2), 6001)
        self.assertEqual(self.in_seconds(refused, "abcd", [Sum([("a" * 12, 1), ("b" * 12, 1)])], 10000), 6001)
        for number in [2, 3, 5, 7]:
            sums = [Sum([("a" * size, 1) for size in range(13)])] * 6
            self.in_seconds(rest_states, "a", sums, number)
            self.in_seconds(rest_states, "abcd", sums, number)
            self.in_seconds(rests_taken, "abcd", sums, number)
        self.in_seconds(how_many_with, "abcd", [A], 600, [599], 300)
        wide = Finite("ab", [[(state + 1) % 600, (state * 7 + 1) % 600] for state in range(600)], [599])
        self.in_seconds(first_with, wide, A, 600, [])
        self.in_seconds(first_with, Finite("ab", wide.moves(), []), A, 599, [5])
        self.in_seconds(rest_set, "abcd", A, 600, [599])
