"""Points [49] to [52]: numbers of machines, sums that they tell, powers of a text, and machines told back."""

import itertools

from skipcounts.errors import InvalidLetters, InvalidList, InvalidMachine, InvalidNumber, InvalidSum, InvalidText
from skipcounts.errors import InvalidWord, TooMany, Unlike
from skipcounts.finites import Finite, machine_within
from skipcounts.leastmachines import least_machine, rank
from skipcounts.learners import machine_from
from skipcounts.machinepowers import parting_power
from skipcounts.machinesums import machine_number, machine_of, no_sum_word, sum_of
from skipcounts.registers import Machine, counting_machine, machine_plus, machine_product, machine_worth
from skipcounts.sums import Sum
from tests import support
from tests.test_leastmachines import some_machines

A, B, AB, BA = [counting_machine("ab", word) for word in ["a", "b", "ab", "ba"]]
BOTH = machine_product(A, B)
DOUBLING = Machine("a", [1], [[[2]]], [1])
NOTHING = Machine("ab", [], [[], []], [])
RUN = Finite("ab", [[0, 1], [None, 1]], [0, 1])


def plain_number(machine, word):
    """By leaving out places in all ways."""
    found = 0
    for kept in itertools.product([False, True], repeat=len(word)):
        left = "".join(sign for sign, stays in zip(word, kept) if stays)
        found += (-1) ** (len(word) - len(left)) * support.plain_machine_worth(machine, left)
    return found


def sum_machine(letters, total):
    """A machine for a sum, put together of one for each term."""
    found = Machine(letters, [], [[] for _ in letters], [])
    for word, number in total.terms():
        if set(word) <= set(letters):
            one = counting_machine(letters, word)
            found = machine_plus(found, Machine(letters, one.start(), one.tables(), [number * own for own in one.out()]))
    return found


class Examples(support.TestCase):
    def test_as_they_stand(self):
        self.assertEqual([machine_number(BOTH, "ab"), sum_of(BOTH).terms(), machine_number(DOUBLING, "aaa"),
                          sum_of(DOUBLING), no_sum_word(DOUBLING)], [1, [("ab", 1), ("ba", 1)], 1, None, "a"])
        self.assertEqual([machine_of("ab", Sum([("ab", 1)])) == least_machine(AB), no_sum_word(machine_within(A, RUN))],
                         [True, "aba"])
        self.assertEqual([parting_power(AB, BA, "", "ab", ""), parting_power(AB, BOTH, "", "a", "b"),
                          machine_from("a", 1, [1, 2]) == DOUBLING, machine_from("a", 1, [2, 3])], [1, None, True, None])


class Numbers(support.TestCase):
    def test_by_leaving_out_places(self):
        for made in some_machines(4901, 40):
            for word in support.all_words(made.letters(), 3) + [made.letters()[0] * 5]:
                self.assertEqual(machine_number(made, word), plain_number(made, word))

    def test_worths_are_sums_of_numbers(self):
        for made in some_machines(4902, 20):
            words = support.all_words(made.letters(), 3)
            for text in words:
                self.assertEqual(support.plain_machine_worth(made, text), sum(
                    machine_number(made, word) * support.plain_count(word, text) for word in words))

    def test_edges(self):
        self.assertEqual(machine_number(NOTHING, "ab"), 0)
        self.assertEqual(machine_number(AB, ""), 0)
        self.assertEqual(machine_number(counting_machine("ab", ""), ""), 1)
        self.assertEqual(machine_number(DOUBLING, "a" * 12), 1)
        for wrong in ["c", "abc", "A", None, 1, ["a"]]:
            self.refuses(InvalidWord, wrong, machine_number, AB, wrong)
        self.refuses(InvalidMachine, None, machine_number, None, None)
        for call in [sum_of, no_sum_word]:
            for wrong in [None, Sum([]), [AB], RUN, "ab"]:
                self.refuses(InvalidMachine, wrong, call, wrong)


class Sums(support.TestCase):
    def check(self, made):
        """By the numbers at all words of r to 2 * r - 1 letters."""
        many = rank(made)
        words = [word for word in support.all_words(made.letters(), 2 * many - 1) if len(word) >= many]
        with_number = [word for word in words if plain_number(made, word) != 0]
        found = no_sum_word(made)
        self.assertEqual(found, with_number[0] if with_number else None)
        total = sum_of(made)
        self.assertEqual(total is None, found is not None)
        if total is not None:
            self.assertLess(total.degree(), max(many, 1))
            for text in support.all_words(made.letters(), 4):
                self.assertEqual(total.worth(text), support.plain_machine_worth(made, text))
        return total is None

    def test_against_the_numbers(self):
        seen = {True: 0, False: 0}
        for made in some_machines(5001, 60):
            if rank(made) * len(made.letters()) <= 6:
                seen[self.check(made)] += 1
        chance = support.chance(5002)
        for letters in ["a", "ab", "abc"]:
            for _ in range(8):
                made = sum_machine(letters, support.some_sum(chance, letters, 2, 2))
                if rank(made) * len(letters) <= 8:
                    seen[self.check(made)] += 1
                made = machine_within(sum_machine(letters, support.some_sum(chance, letters, 1, 1)),
                                      support.some_finite(chance, letters, 2, 0.2))
                if rank(made) * len(letters) <= 8:
                    seen[self.check(made)] += 1
        self.assertGreater(min(seen.values()), 15)

    def test_back_and_forth(self):
        chance = support.chance(5003)
        for letters in ["a", "ab", "abc", "abcd"]:
            for _ in range(15):
                total = support.some_sum(chance, letters, 3, 3, 10)
                made = machine_of(letters, total)
                self.assertEqual(made, least_machine(sum_machine(letters, total)))
                self.assertEqual(sum_of(made), total)
                self.assertEqual(sum_of(sum_machine(letters, total)), total)

    def test_edges(self):
        self.assertEqual(sum_of(NOTHING), Sum([]))
        self.assertIsNone(no_sum_word(NOTHING))
        self.assertEqual(machine_of("ab", Sum([])), NOTHING)
        self.assertEqual(machine_of("ab", Sum([("", 7)])), Machine("ab", [1], [[[1]], [[1]]], [7]))
        self.assertEqual(no_sum_word(Machine("ab", [1], [[[1]], [[0]]], [1])), "b")
        # The numbers at "a", "aa", "aaa" .. are 1, 0, 1, 0 and so on.
        self.assertEqual(no_sum_word(Machine("a", [1, 0], [[[1, 1], [1, 1]]], [0, 1])), "aaa")
        self.assertEqual(no_sum_word(Machine("a", [1, 0], [[[1, 1], [1, 1]]], [1, 0])), "aa")
        self.assertEqual(no_sum_word(Machine("abcd", [1], [[[1]], [[1]], [[1]], [[-1]]], [1])), "d")

    def test_letters_that_are_not_in_the_alphabet(self):
        total = Sum([("ab", 2), ("xb", 5), ("x", 3), ("a", -1)])
        self.assertEqual(machine_of("ab", total), machine_of("ab", Sum([("ab", 2), ("a", -1)])))
        self.assertEqual(machine_of("a", total), machine_of("a", Sum([("a", -1)])))
        self.assertEqual(machine_of("yz", total), Machine("yz", [], [[], []], []))
        self.assertEqual(machine_of("abx", total), least_machine(sum_machine("abx", total)))

    def test_greatest_rank(self):
        # The count of one word has a rank of one more than the word has letters.
        self.assertEqual(len(machine_of("a", Sum([("a" * 39, 1)])).start()), 40)
        self.refuses_number(TooMany, 41, machine_of, "a", Sum([("a" * 40, 1)]))
        self.refuses_number(TooMany, 41, machine_of, "a", Sum([("a" * 80, 1)]))
        self.assertEqual(len(machine_of("ab", Sum([("ab" * 6, 10 ** 29)])).start()), 13)
        # Of words over letters of their own, only the empty word and the whole sum fall together.
        words = ["a" * 14, "b" * 14, "c" * 13]
        self.assertEqual(len(machine_of("abc", Sum([(word, 1) for word in words])).start()), 40)
        words = ["a" * 14, "b" * 14, "c" * 14]
        self.refuses_number(TooMany, 41, machine_of, "abc", Sum([(word, 1) for word in words]))
        self.assertEqual(len(machine_of("ab", Sum([(word, 1) for word in words])).start()), 28)
        chance = support.chance(5004)
        many = Sum([(support.some_text(chance, "abcd", 12), 1) for _ in range(40)])
        self.refuses_number(TooMany, 41, machine_of, "abcd", many)

    def test_wrong_arguments(self):
        self.refuses(InvalidLetters, "ba", machine_of, "ba", None)
        for wrong in [None, [("a", 1)], "a", AB]:
            self.refuses(InvalidSum, wrong, machine_of, "ab", wrong)


class Powers(support.TestCase):
    def test_against_writing_out(self):
        chance = support.chance(5101)
        seen = {}
        for letters in ["a", "ab"]:
            for _ in range(80):
                one = support.some_machine(chance, letters, chance.randint(0, 3), 1)
                other = least_machine(one) if chance.random() < 0.2 else support.some_machine(
                    chance, letters, chance.randint(0, 3), 1)
                if chance.random() < 0.4:
                    # Alike at first: the two differ by a count that needs several letters.
                    other = machine_plus(one, counting_machine(letters, letters[-1] * chance.randint(2, 4)))
                head, text, behind = [support.some_text(chance, letters, chance.randint(0, 2)) for _ in range(3)]
                apart = [many for many in range(9) if support.plain_machine_worth(one, head + text * many + behind)
                         != support.plain_machine_worth(other, head + text * many + behind)]
                found = parting_power(one, other, head, text, behind)
                seen[found] = seen.get(found, 0) + 1
                self.assertEqual(found, apart[0] if apart else None)
                if found is not None:
                    self.assertLess(found, len(one.start()) + len(other.start()))
        self.assertLessEqual({None, 0, 1, 2}, set(seen))

    def test_last_power(self):
        one = counting_machine("a", "a" * 7)
        none = Machine("a", [], [[]], [])
        self.assertEqual(parting_power(one, none, "", "a", ""), 7)
        self.assertEqual(parting_power(one, none, "aa", "a", "a"), 4)
        self.assertIsNone(parting_power(one, none, "aa", "", "a"))
        self.assertIsNone(parting_power(NOTHING, NOTHING, "", "", ""))

    def test_wrong_arguments(self):
        unlike = counting_machine("ac", "a")
        self.refuses(InvalidMachine, None, parting_power, None, "b", None, None, None)
        self.refuses(InvalidMachine, "b", parting_power, A, "b", None, None, None)
        self.refuses(Unlike, unlike, parting_power, A, unlike, None, None, None)
        for wrong in ["c", "A", None, 1, ["a"]]:
            self.refuses(InvalidText, wrong, parting_power, A, B, wrong, "x", "y")
            self.refuses(InvalidText, wrong, parting_power, A, B, "", wrong, "y")
            self.refuses(InvalidText, wrong, parting_power, A, B, "", "", wrong)


class ToldBack(support.TestCase):
    def worths(self, made, most):
        return [support.plain_machine_worth(made, text) for text in support.all_words(made.letters(), 2 * most - 1)]

    def test_machines_told_back(self):
        chance = support.chance(5201)
        for letters, most in [("a", 1), ("a", 4), ("ab", 1), ("ab", 2), ("ab", 3), ("abc", 2), ("abcd", 2)]:
            for size in range(most + 1):
                for _ in range(3):
                    made = support.some_machine(chance, letters, size, 3)
                    self.assertEqual(machine_from(letters, most, self.worths(made, most)), least_machine(made))
        made = machine_plus(BOTH, machine_product(B, B))
        self.assertEqual(rank(made), 4)
        self.assertEqual(machine_from("ab", 4, self.worths(made, 4)), least_machine(made))

    def test_no_machine(self):
        chance = support.chance(5202)
        for letters, most in [("a", 1), ("a", 3), ("ab", 2), ("ab", 3), ("abc", 2)]:
            for _ in range(6):
                made = support.some_machine(chance, letters, most, 3)
                values = self.worths(made, most)
                at = chance.randrange(len(values))
                values[at] += chance.choice([-1, 1])
                found = machine_from(letters, most, values)
                if found is not None:
                    self.assertLessEqual(len(found.start()), most)
                    self.assertEqual(self.worths(found, most), values)
                    self.assertEqual(least_machine(found), found)
                if rank(made) == most:
                    made = machine_plus(made, Machine(letters, [1], [[[3]]] * len(letters), [5]))
                    if rank(made) > most:
                        found = machine_from(letters, most, self.worths(made, most))
                        self.assertTrue(found is None or self.worths(found, most) == self.worths(made, most))

    def test_all_small_lists(self):
        # One letter and rank 1: the second worth is a multiple of the first one, or both are 0.
        for first, second in itertools.product(range(-6, 7), repeat=2):
            found = machine_from("a", 1, [first, second])
            if first == 0:
                self.assertEqual(found, None if second != 0 else Machine("a", [], [[]], []))
            elif second % first == 0:
                self.assertEqual(self.worths(found, 1), [first, second])
            else:
                self.assertIsNone(found)
        # Rank 2: the fractions between the worths must never show.
        for values in itertools.product([0, 1, 2], repeat=4):
            found = machine_from("a", 2, list(values))
            if found is not None:
                self.assertEqual(self.worths(found, 2), list(values))
                self.assertLessEqual(len(found.start()), 2)
            else:
                self.assertFalse(self.told_by_recurrence(values))

    def told_by_recurrence(self, values):
        """Whether whole numbers p and q, not too great, lead from two values on to each next one, or rank 1 does."""
        first, second, third, fourth = values
        for p, q in itertools.product(range(-12, 13), repeat=2):
            if p * first + q * second == third and p * second + q * third == fourth:
                return True
        return False

    def test_edges(self):
        self.assertEqual(machine_from("ab", 2, [0] * 15), NOTHING)
        self.assertIsNone(machine_from("ab", 2, [0] * 14 + [1]))
        self.assertIsNone(machine_from("ab", 1, [0, 1, 1]))
        self.assertEqual(machine_from("abcd", 1, [5] * 5), machine_of("abcd", Sum([("", 5)])))
        # Each worth is 1 more than a power of 2.
        self.assertEqual(rank(machine_from("a", 3, [2, 3, 5, 9, 17, 33])), 2)
        self.assertIsNone(machine_from("a", 2, [4, 2, 1, 0]))

    def test_wrong_arguments(self):
        for wrong in [0, 7, -1, None, True, "1"]:
            self.refuses(InvalidNumber, wrong, machine_from, "ab", wrong, None)
        self.refuses(InvalidLetters, "ba", machine_from, "ba", None, None)
        for letters, most, many in [("ab", 6, 4095), ("abc", 4, 3280), ("abcd", 4, 21845), ("abcd", 6, 5592405)]:
            self.refuses_number(TooMany, many, machine_from, letters, most, None)
        for wrong in [None, (1, 2), [1], [1, 2, 3], [1, None], [True, 2], ["1", 2], {}]:
            self.refuses(InvalidList, wrong, machine_from, "a", 1, wrong)
        self.assertEqual(machine_from("abcd", 3, [0] * 1365), Machine("abcd", [], [[], [], [], []], []))


class Limits(support.TestCase):
    def test_end_within_seconds(self):
        chance = support.chance(5203)
        for letters, most in [("a", 6), ("ab", 6), ("abc", 4), ("abcd", 4)]:
            machines = [support.some_machine(chance, letters, most, 1000),
                        sum_machine(letters, Sum([("a" * (most - 1), 1)])),
                        sum_machine(letters, Sum([(letters[:2] * 2, 5)]))]
            for made in machines:
                self.in_seconds(sum_of, made)
                self.in_seconds(no_sum_word, made)
                self.in_seconds(machine_number, made, letters * (12 // len(letters)))
        for letters in ["a", "ab", "abcd"]:
            for _ in range(4):
                total = Sum([(support.some_text(chance, letters, chance.randint(8, 12)), chance.randint(
                    -support.BIG, support.BIG)) for _ in range(3)])
                self.in_seconds(machine_of, letters, total)
            one, other = [support.some_machine(chance, letters, 10, 1000) for _ in "12"]
            texts = [support.some_text(chance, letters, 300) for _ in range(3)]
            self.in_seconds(parting_power, one, other, *texts)
            self.assertIsNone(self.in_seconds(parting_power, one, one, *texts))
        for letters, most in [("a", 6), ("ab", 5), ("abc", 3), ("abcd", 3)]:
            for size in [most, most + 2]:
                made = support.some_machine(chance, letters, size, 1000)
                self.in_seconds(machine_from, letters, most, self.values(made, most))
            many = len(support.all_words(letters, 2 * most - 1))
            self.in_seconds(machine_from, letters, most, [chance.randint(0, support.BIG) for _ in range(many)])

    def values(self, made, most):
        return [machine_worth(made, text) for text in support.all_words(made.letters(), 2 * most - 1)]
