"""Points [43] to [46]: where machines part, papers that they agree, rests, and balances."""

import itertools
import math

from skipcounts.balances import balances, deciding_texts, is_balance
from skipcounts.errors import InvalidFinite, InvalidList, InvalidMachine, InvalidNumber, Unlike
from skipcounts.finites import Finite, machine_within
from skipcounts.leastmachines import least_machine
from skipcounts.partings import agreeing_paper, common_divisor, is_agreeing_paper, parting_rest, parting_text
from skipcounts.registers import Machine, counting_machine, machine_plus, machine_product
from tests import support

A, B, AB, BA = [counting_machine("ab", word) for word in ["a", "b", "ab", "ba"]]
BOTH, RUN = machine_product(A, B), Finite("ab", [[0, 1], [None, 1]], [0, 1])
NOTHING = Machine("ab", [], [[], []], [])
EMPTY = Finite("ab", [[0, 0]], [])


def difference(one, other, text):
    return support.plain_machine_worth(one, text) - support.plain_machine_worth(other, text)


def texts_of(finite, letters, size):
    return [text for text in support.all_words(letters, size) if support.plain_lets(finite, text)]


def some_pair(chance, letters, most=1):
    """Two machines that agree at many texts, or everywhere."""
    one = support.some_machine(chance, letters, chance.randint(0, 2), most)
    kind = chance.randint(0, 3)
    if kind == 0:
        return one, support.some_machine(chance, letters, chance.randint(0, 2), most)
    if kind == 1:
        return one, least_machine(one)
    finite = support.some_finite(chance, letters, 2, 0.4)
    return machine_within(one, finite), one


def some_finite(chance, letters):
    kind = chance.randint(0, 3)
    return None if kind == 0 else support.some_finite(chance, letters, kind, 0.3)


class Examples(support.TestCase):
    def test_as_they_stand(self):
        self.assertEqual([parting_text(machine_plus(AB, BA), BOTH), parting_text(AB, BOTH), parting_text(AB, BOTH, RUN)],
                         [None, "ba", None])
        self.assertEqual([is_agreeing_paper(AB, BOTH, RUN, agreeing_paper(AB, BOTH, RUN)),
                          is_agreeing_paper(AB, BOTH, None, [])], [True, False])
        self.assertEqual([common_divisor(machine_product(A, A), A), parting_rest(machine_product(A, A), A, 3)],
                         [2, "aa"])
        machines = [A, B, AB, BA, BOTH]
        self.assertEqual([deciding_texts(machines), balances(machines), balances(machines, RUN),
                          is_balance([AB, BA, BOTH], [2, 2, -2])],
                         [["a", "b", "ab", "ba"], [[0, 0, 1, 1, -1]], [[0, 0, 1, 0, -1], [0, 0, 0, 1, 0]], True])


class PartingText(support.TestCase):
    def test_against_all_texts(self):
        chance = support.chance(4301)
        seen = {}
        for letters, size in [("a", 14), ("ab", 7), ("abc", 5)]:
            for _ in range(70):
                (one, other), finite = some_pair(chance, letters), some_finite(chance, letters)
                apart = [text for text in texts_of(finite, letters, size) if difference(one, other, text) != 0]
                found = parting_text(one, other, finite)
                seen[found is None] = seen.get(found is None, 0) + 1
                if found is not None:
                    registers = len(one.start()) + len(other.start())
                    self.assertLess(len(found), registers * (1 if finite is None else len(finite.moves())))
                if found is None or len(found) > size:
                    self.assertEqual(apart, [])
                else:
                    self.assertEqual(apart[0], found)
        self.assertGreater(min(seen.values()), 30)

    def test_last_text(self):
        # The first text with a worth has 4 letters; the first one of these that has one more than 5 or 10 has 6.
        one = counting_machine("a", "aaaa")
        round_about = Finite("a", [[1], [2], [3], [4], [0]], [1])
        self.assertEqual(parting_text(one, Machine("a", [], [[]], [])), "aaaa")
        self.assertEqual(parting_text(one, Machine("a", [], [[]], []), round_about), "aaaaaa")

    def test_edges(self):
        self.assertIsNone(parting_text(NOTHING, NOTHING))
        self.assertIsNone(parting_text(A, B, EMPTY))
        self.assertEqual(parting_text(A, NOTHING), "a")
        self.assertEqual(parting_text(NOTHING, counting_machine("ab", "")), "")
        only = Finite("ab", [[None, None]], [0])
        self.assertIsNone(parting_text(A, B, only))
        self.assertEqual(parting_text(A, B, None), "a")
        self.assertIsNone(parting_text(A, B, Finite("ab", [[None, 1], [0, None]], [0])))


class Papers(support.TestCase):
    def plain_is_paper(self, one, other, finite, texts):
        letters = one.letters()
        moves = [[0] * len(letters)] if finite is None else finite.moves()
        table = Finite(letters, moves, [0] if finite is None else finite.ends())
        states = {text: support.plain_state(table, text) for text in texts}
        if None in states.values():
            return False
        rows = {state: [support.plain_held(one, text) + support.plain_held(other, text)
                        for text in texts if states[text] == state] for state in range(len(moves))}
        for text in [""] + [text + letter for text in texts for letter in letters]:
            state = support.plain_state(table, text)
            if state is not None and not support.is_made(
                    rows[state], support.plain_held(one, text) + support.plain_held(other, text)):
                return False
        return all(difference(one, other, text) == 0 for text in texts if support.plain_lets(finite, text))

    def plain_paper(self, one, other, finite, size):
        table = Finite(one.letters(), [[0] * len(one.letters())], [0]) if finite is None else finite
        found, rows = [], {}
        for text in support.all_words(one.letters(), size):
            state = support.plain_state(table, text)
            if state is None or any(text[:cut] not in found for cut in range(len(text))):
                continue
            row = support.plain_held(one, text) + support.plain_held(other, text)
            if not support.is_made(rows.get(state, []), row):
                rows.setdefault(state, []).append(row)
                found.append(text)
        return found

    def test_least_paper(self):
        chance = support.chance(4401)
        papers = 0
        for letters, size in [("a", 12), ("ab", 6)]:
            for _ in range(60):
                (one, other), finite = some_pair(chance, letters), some_finite(chance, letters)
                found = agreeing_paper(one, other, finite)
                self.assertEqual(found is None, parting_text(one, other, finite) is not None)
                if found is not None:
                    papers += 1
                    self.assertTrue(is_agreeing_paper(one, other, finite, found))
                    self.assertTrue(self.plain_is_paper(one, other, finite, found))
                    if len(max(found, key=len, default="")) < size:
                        self.assertEqual(found, self.plain_paper(one, other, finite, size))
        self.assertGreater(papers, 30)

    def test_other_papers(self):
        chance = support.chance(4402)
        seen = {True: 0, False: 0}
        for _ in range(150):
            (one, other), finite = some_pair(chance, "ab"), some_finite(chance, "ab")
            texts = agreeing_paper(one, other, finite) or []
            texts = texts + [support.some_text(chance, "ab", chance.randint(0, 4)) for _ in range(chance.randint(0, 2))]
            chance.shuffle(texts)
            if texts and chance.random() < 0.3:
                texts.pop()
            found = is_agreeing_paper(one, other, finite, texts)
            self.assertIs(found, self.plain_is_paper(one, other, finite, texts))
            seen[found] += 1
        self.assertGreater(min(seen.values()), 20)

    def test_edges(self):
        self.assertEqual(agreeing_paper(NOTHING, NOTHING), [])
        self.assertTrue(is_agreeing_paper(NOTHING, NOTHING, None, []))
        self.assertTrue(is_agreeing_paper(NOTHING, NOTHING, None, ["a", "a"]))
        zero = Machine("ab", [0], [[[1]], [[1]]], [5])
        self.assertEqual(agreeing_paper(zero, zero), [])
        paper = agreeing_paper(AB, BOTH, RUN)
        self.assertTrue(is_agreeing_paper(AB, BOTH, RUN, paper[::-1]))
        self.assertTrue(is_agreeing_paper(AB, BOTH, RUN, paper + paper))
        self.assertFalse(is_agreeing_paper(AB, BOTH, RUN, paper + ["ba"]))
        self.assertFalse(is_agreeing_paper(AB, BOTH, None, paper))
        for wrong in [None, tuple(paper), paper + [None], paper + ["c"], paper + [1], {}, "ab", [paper]]:
            self.assertIs(is_agreeing_paper(AB, BOTH, RUN, wrong), False)
        # Without ends two machines agree, whatever they hold.
        self.assertEqual(agreeing_paper(A, B, EMPTY)[0], "")
        self.assertTrue(is_agreeing_paper(A, B, EMPTY, agreeing_paper(A, B, EMPTY)))


class GreatNumbers(support.TestCase):
    def test_multiples_of_a_great_prime(self):
        # Rows that fall together by rests of a great prime number need not fall together themselves.
        chance = support.chance(4403)
        great = 2 ** 61 - 1
        numbers = [0, 0, 1, 1, -1, great, -great, 2 * great, great * great, great + 1]
        parted = 0
        for letters, size in [("a", 6), ("ab", 4)]:
            for _ in range(60):
                def some():
                    many = chance.randint(0, 2)
                    rows = [[chance.choice(numbers) for _ in range(many)] for _ in range(2 + many * len(letters))]
                    return Machine(letters, rows[0], [rows[2 + many * at:][:many] for at in range(len(letters))], rows[1])
                one, other = some(), some()
                apart = [text for text in support.all_words(letters, size) if difference(one, other, text) != 0]
                found = parting_text(one, other)
                self.assertEqual(found, apart[0] if apart else None)
                parted += found is not None
                self.assertEqual(deciding_texts([one, other]), self.plain_deciding([one, other], size))
                for each in [one, least_machine(one)]:
                    self.assertEqual(agreeing_paper(one, each), Papers.plain_paper(self, one, each, None, size))
        self.assertGreater(parted, 40)

    def plain_deciding(self, machines, size):
        found, kept = [], []
        for text in support.all_words(machines[0].letters(), size):
            row = [support.plain_machine_worth(one, text) for one in machines]
            if not support.is_made(kept, row):
                kept.append(row)
                found.append(text)
        return found


class Rests(support.TestCase):
    def test_against_all_texts(self):
        chance = support.chance(4501)
        seen = {}
        for letters, size in [("a", 14), ("ab", 7)]:
            for _ in range(80):
                (one, other), finite = some_pair(chance, letters, 3), some_finite(chance, letters)
                texts = texts_of(finite, letters, size)
                self.assertEqual(common_divisor(one, other, finite),
                                 math.gcd(*[difference(one, other, text) for text in texts]))
                for by in [2, 3, 4, 6, 30]:
                    apart = [text for text in texts if difference(one, other, text) % by != 0]
                    found = parting_rest(one, other, by, finite)
                    seen[found is None] = seen.get(found is None, 0) + 1
                    if found is None or len(found) > size:
                        self.assertEqual(apart, [])
                    else:
                        self.assertEqual(apart[0], found)
        self.assertGreater(min(seen.values()), 30)

    def test_machines_that_agree_by_some_rests(self):
        # What is held at first is a divisor of the number, and reaches only later the register that is worth something.
        chance = support.chance(4502)
        late = 0
        for letters, size in [("a", 12), ("ab", 6)]:
            for _ in range(150):
                many, by = chance.randint(2, 4), chance.choice([4, 8, 9, 12])
                tables = [[[chance.choice([0, 0, 0, 0, 1, 2, 3]) for _ in range(many)] for _ in range(many)]
                          for _ in letters]
                start = [chance.choice([low for low in range(1, by + 1) if by % low == 0])] + [0] * (many - 1)
                one = Machine(letters, start, tables, [0] * (many - 1) + [chance.choice([1, 2, 3])])
                other = Machine(letters, [], [[] for _ in letters], [])
                finite = some_finite(chance, letters)
                texts = texts_of(finite, letters, size)
                apart = [text for text in texts if difference(one, other, text) % by != 0]
                found = parting_rest(one, other, by, finite)
                if found is None or len(found) > size:
                    self.assertEqual(apart, [])
                else:
                    self.assertEqual(apart[0], found)
                    late += len(found) > 1
                self.assertEqual(common_divisor(one, other, finite),
                                 math.gcd(*[difference(one, other, text) for text in texts]))
        self.assertGreater(late, 10)

    def test_rests_need_more_texts_than_fractions(self):
        # All worths are 4, 8, 16 and so on, or 0.
        one = Machine("ab", [4, 0], [[[2, 0], [0, 0]], [[0, 1], [0, 0]]], [1, 1])
        two = Machine("ab", [4], [[[2]], [[1]]], [1])
        none = Machine("ab", [], [[], []], [])
        self.assertEqual(common_divisor(one, none), 4)
        self.assertIsNone(parting_rest(two, none, 4))
        self.assertEqual(parting_rest(two, none, 8), "")
        shift = Machine("a", [6, 4], [[[0, 1], [0, 1]]], [1, 0])
        self.assertEqual(common_divisor(shift, Machine("a", [], [[]], [])), 6)
        # 3 is no rest of 0 by 9, though 3 divides it.
        self.assertEqual(parting_rest(Machine("a", [3], [[[1]]], [1]), Machine("a", [], [[]], []), 9), "")
        # Here 2 * (1, 0) comes first, and the odd row (1, 0) only behind two letters.
        odd = Machine("ab", [2, 1, 0], [[[1, 0, 0], [0, 0, 1], [0, 0, 1]], [[0, 0, 0], [0, 1, 0], [1, 0, 0]]], [1, 0, 0])
        self.assertEqual(common_divisor(odd, none), 1)
        self.assertEqual(parting_rest(odd, none, 2), "ab")

    def test_edges(self):
        self.assertEqual(common_divisor(NOTHING, NOTHING), 0)
        self.assertEqual(common_divisor(A, B, EMPTY), 0)
        self.assertEqual(common_divisor(A, A), 0)
        self.assertIsNone(parting_rest(A, A, 10 ** 29))
        self.assertIsNone(parting_rest(A, B, 2, EMPTY))
        far = Machine("a", [10 ** 29], [[[10 ** 29]]], [1])
        self.assertEqual(common_divisor(far, Machine("a", [], [[]], [])), 10 ** 29)
        self.assertIsNone(parting_rest(far, Machine("a", [], [[]], []), 10 ** 29))
        self.assertEqual(parting_rest(far, Machine("a", [], [[]], []), 10 ** 29 - 1), "")
        for wrong in [None, True, 0, 1, -2, "2", [2]]:
            self.refuses(InvalidNumber, wrong, parting_rest, A, B, wrong, "wrong")


class Balances(support.TestCase):
    def test_against_all_texts(self):
        chance = support.chance(4601)
        for letters, size in [("a", 12), ("ab", 6)]:
            for _ in range(50):
                machines = [support.some_machine(chance, letters, chance.randint(0, 2), 1)
                            for _ in range(chance.randint(1, 4))]
                if chance.random() < 0.5 and len(machines[0].start()) + len(machines[-1].start()) < 5:
                    machines.append(machine_plus(machines[0], machines[-1]))
                finite = some_finite(chance, letters)
                texts = texts_of(finite, letters, size)
                rows = [[support.plain_machine_worth(one, text) for one in machines] for text in texts]
                decisions, kept = [], []
                for text, row in zip(texts, rows):
                    if len(kept) < len(machines) and not support.is_made(kept, row):
                        decisions.append(text)
                        kept.append(row)
                self.assertEqual(deciding_texts(machines, finite), decisions)
                found = balances(machines, finite)
                self.assertEqual(len(found), len(machines) - len(kept))
                self.assertEqual(found, support.plain_stairs(found) if found else [])
                self.check_all_balances(machines, finite, found, kept)

    def check_all_balances(self, machines, finite, found, kept):
        """Just the balances are made of what was found, whole numbers of times."""
        for numbers in itertools.product(range(-1, 3), repeat=len(machines)):
            expected = all(sum(a * b for a, b in zip(numbers, row)) == 0 for row in kept)
            self.assertIs(is_balance(machines, list(numbers), finite), expected)
            left = list(numbers)
            for stair in found:
                place = next(at for at, number in enumerate(stair) if number)
                times = left[place] // stair[place]
                left = [number - times * less for number, less in zip(left, stair)]
            self.assertEqual(expected, not any(left))

    def test_whole_numbers_of_times(self):
        machines = [Machine("a", [number], [[[1]]], [1]) for number in [6, 10, 15]]
        self.assertEqual(balances(machines), [[5, 0, -2], [0, 3, -2]])
        self.assertEqual(balances([machines[0]]), [])
        self.assertEqual(balances([Machine("a", [], [[]], [])]), [[1]])
        self.assertEqual(balances([A, B], EMPTY), [[1, 0], [0, 1]])
        self.assertEqual(deciding_texts([A, B], EMPTY), [])

    def test_any_numbers(self):
        for wrong in [None, (1, 1, -1), [1, 1], [1, 1, -1, 0], [True, True, -1], ["1", 1, -1], {}, [1, 1, None]]:
            self.assertIs(is_balance([AB, BA, BOTH], wrong), False)
        self.assertIs(is_balance([AB, BA, BOTH], [1, 1, -1]), True)
        self.assertIs(is_balance([AB, BA, BOTH], [1, 1, 1], EMPTY), True)

    def test_wrong_machines(self):
        calls = [lambda machines, finite: deciding_texts(machines, finite),
                 lambda machines, finite: balances(machines, finite),
                 lambda machines, finite: is_balance(machines, None, finite)]
        other = counting_machine("ac", "a")
        for call in calls:
            for wrong in [None, (A, B), [], [A] * 9, {}, A, "ab", [None] * 9]:
                self.refuses(InvalidList, wrong, call, wrong, "wrong")
            for machines, wrong in [([None], None), ([A, "b", None], "b"), ([A, other, RUN], RUN), ([[A]], None)]:
                if wrong is None and machines != [None]:
                    wrong = machines[0]
                self.refuses(InvalidMachine, wrong, call, machines, "wrong")
            self.refuses(Unlike, other, call, [A, B, other, counting_machine("bc", "b")], "wrong")
            self.refuses(InvalidFinite, "wrong", call, [A, B], "wrong")
            unlike = Finite("a", [[0]], [0])
            self.refuses(Unlike, unlike, call, [A, B], unlike)


class Wrong(support.TestCase):
    def test_order_of_the_errors(self):
        unlike, finite = counting_machine("ac", "a"), Finite("a", [[0]], [0])
        calls = [parting_text, agreeing_paper, common_divisor, lambda one, other, finite: parting_rest(
            one, other, 2, finite), lambda one, other, finite: is_agreeing_paper(one, other, finite, None)]
        for call in calls:
            self.refuses(InvalidMachine, None, call, None, "wrong", "wrong")
            self.refuses(InvalidMachine, "wrong", call, A, "wrong", "wrong")
            self.refuses(Unlike, unlike, call, A, unlike, "wrong")
            for wrong in ["wrong", True, [[0, 0]], A, 0]:
                self.refuses(InvalidFinite, wrong, call, A, B, wrong)
            self.refuses(Unlike, finite, call, A, B, finite)
        self.refuses(Unlike, unlike, parting_rest, A, unlike, None, "wrong")
        self.refuses(InvalidNumber, None, parting_rest, A, B, None, "wrong")
        self.assertEqual(parting_text(A, B, finite=None), parting_text(A, B))


class Limits(support.TestCase):
    def test_end_within_seconds(self):
        chance = support.chance(4602)
        for letters in ["a", "ab", "abcd"]:
            one, other = [support.some_machine(chance, letters, 10, 1000) for _ in "12"]
            third = Machine(letters, [number for number in one.start()], one.tables(), [0] * 9 + [1])
            moves = [[(state * (at + 1) + 1) % 8 for at in range(len(letters))] for state in range(8)]
            for finite in [None, Finite(letters, moves, [7]), Finite(letters, moves, [])]:
                for pair in [(one, other), (one, one), (one, third)]:
                    self.in_seconds(parting_text, *pair, finite)
                    paper = self.in_seconds(agreeing_paper, *pair, finite)
                    self.in_seconds(is_agreeing_paper, *pair, finite, paper)
                    self.in_seconds(deciding_texts, list(pair), finite)
                    self.in_seconds(balances, list(pair), finite)
                small = [support.some_machine(chance, letters, 5, 1000) for _ in "12"]
                for by in [2, 10 ** 29, 2 ** 98]:
                    self.in_seconds(parting_rest, *small, by, finite)
                    self.in_seconds(parting_rest, small[0], small[0], by, finite)
                self.in_seconds(common_divisor, *small, finite)
                tens = [Machine(letters, [2 ** 9 * number for number in each.start()], each.tables(), each.out())
                        for each in small]
                self.in_seconds(common_divisor, *tens, finite)
                eight = [support.some_machine(chance, letters, 2, 1000) for _ in range(8)]
                self.in_seconds(balances, eight, finite)
                self.in_seconds(is_balance, eight, [support.BIG] * 8, finite)
