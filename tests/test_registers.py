"""Points [40] to [42]: register machines and finite machines."""

from skipcounts.errors import InvalidFinite, InvalidLetters, InvalidList, InvalidMachine, InvalidRules, InvalidText
from skipcounts.errors import InvalidWord, TooMany, Unlike
from skipcounts.finites import Finite, lets, machine_within
from skipcounts.registers import Machine, counting_machine, machine_led, machine_plus, machine_product, machine_worth
from skipcounts.rules import done
from skipcounts.sums import Sum
from tests import support


def zero_machine(letters, size):
    return Machine(letters, [0] * size, [[[0] * size for _ in range(size)] for _ in letters], [0] * size)


class Examples(support.TestCase):
    def test_as_they_stand(self):
        a, b, ab = [counting_machine("ab", word) for word in ["a", "b", "ab"]]
        both, run = machine_product(a, b), Finite("ab", [[0, 1], [None, 1]], [0, 1])
        self.assertEqual([machine_worth(both, "abab"),
                          machine_worth(machine_led(ab, "xy", [("x", "ab"), ("y", "")]), "xyx")], [4, 3])
        self.assertEqual([lets(run, "aabb"), lets(run, "aba"), machine_worth(machine_within(a, run), "aba")],
                         [True, False, 0])


class Machines(support.TestCase):
    def test_what_was_given(self):
        tables = [[[1, 2], [3, 4]], [[5, 6], [7, support.BIG]]]
        made = Machine("ab", [0, -1], tables, [8, 9])
        self.assertEqual((made.letters(), made.start(), made.tables(), made.out()), ("ab", [0, -1], tables, [8, 9]))
        tables[0][0][0] = 10
        self.assertEqual(made.tables()[0][0][0], 1)
        made.tables()[0][0][0] = 11
        self.assertEqual(made.tables()[0][0][0], 1)

    def test_equal_by_the_four(self):
        parts = ("ab", [0, 1], [[[1, 2], [3, 4]], [[5, 6], [7, 8]]], [8, 9])
        made = Machine(*parts)
        self.assertTrue(made == Machine(*parts))
        for at, other in [(0, "ac"), (1, [0, 2]), (2, [[[1, 2], [3, 4]], [[5, 6], [7, 9]]]), (3, [8, 8])]:
            self.assertFalse(made == Machine(*[other if at == place else part for place, part in enumerate(parts)]))
        for other in support.any_values():
            self.assertFalse(made == other)

    def test_worths_step_by_step(self):
        chance = support.chance(4001)
        for letters in ["a", "ab", "xyz", "abcd"]:
            for size in range(4):
                made = support.some_machine(chance, letters, size, 3)
                for text in support.all_words(letters, 3) + [support.some_text(chance, letters, 30)]:
                    self.assertEqual(machine_worth(made, text), support.plain_machine_worth(made, text))

    def test_registers_change_at_once_and_by_columns(self):
        made = Machine("a", [1, 0], [[[0, 5], [7, 0]]], [1, 100])
        self.assertEqual([machine_worth(made, "a" * many) for many in range(4)], [1, 500, 35, 17500])

    def test_no_register(self):
        made = Machine("ab", [], [[], []], [])
        self.assertEqual(machine_worth(made, "abba"), 0)
        self.assertEqual((made.start(), made.tables(), made.out()), ([], [[], []], []))

    def test_forty_registers_and_the_first_number_above(self):
        self.assertEqual(len(zero_machine("ab", 40).start()), 40)
        self.refuses_number(TooMany, 41, Machine, "ab", [0] * 41, None, None)
        self.refuses_number(TooMany, 1000, Machine, "ab", [0] * 1000, None, None)
        wrong = [0] * 41 + [None]
        self.refuses(InvalidList, wrong, Machine, "ab", wrong, None, None)

    def test_wrong_parts(self):
        table = [[1, 2], [3, 4]]
        for wrong in [None, (1, 2), "ab", {}, [None], [True, 1], [1, "2"], 5, [[1]]]:
            self.refuses(InvalidList, wrong, Machine, "ab", wrong, None, None)
        for wrong in [None, (table, table), [], [table], [table] * 3, [table, None], [table, (1, 2)], [table, [[1, 2]]],
                      [table, [[1, 2], (3, 4)]], [table, [[1, 2], [3]]], [table, [[1, 2], [3, 4, 5]]],
                      [table, [[1, 2], [3, True]]], [table, [[1, None], [3, 4]]], [table, [[1, 2], [3, 4], [5, 6]]],
                      {"a": table, "b": table}]:
            self.refuses(InvalidList, wrong, Machine, "ab", [1, 2], wrong, None)
        for wrong in [None, (1, 2), [], [1], [1, 2, 3], [1, None], [False, 1], {1: 2, 2: 3}]:
            self.refuses(InvalidList, wrong, Machine, "ab", [1, 2], [table, table], wrong)
        for wrong in ["ba", "", "abcde", None, "A"]:
            self.refuses(InvalidLetters, wrong, Machine, wrong, None, None, None)

    def test_wrong_texts(self):
        made = counting_machine("ab", "ab")
        for wrong in ["abc", "A", None, 1, ["a"]]:
            self.refuses(InvalidText, wrong, machine_worth, made, wrong)
        for wrong in [None, "ab", Sum([]), Finite("a", [[0]], [])]:
            self.refuses(InvalidMachine, wrong, machine_worth, wrong, None)


class Joined(support.TestCase):
    def test_counting(self):
        for letters in ["a", "ab", "abc"]:
            for word in support.all_words(letters, 3):
                made = counting_machine(letters, word)
                self.assertEqual(len(made.start()), len(word) + 1)
                for text in support.all_words(letters, 4):
                    self.assertEqual(machine_worth(made, text), support.plain_count(word, text))
        self.assertEqual(len(counting_machine("a", "a" * 39).start()), 40)
        self.refuses_number(TooMany, 41, counting_machine, "a", "a" * 40)
        for wrong in ["c", "abc", "A", None, 1]:
            self.refuses(InvalidWord, wrong, counting_machine, "ab", wrong)
        self.refuses(InvalidLetters, "ba", counting_machine, "ba", None)

    def test_sums_and_products(self):
        chance = support.chance(4002)
        for letters in ["a", "ab"]:
            for first in range(4):
                for second in range(4):
                    one = support.some_machine(chance, letters, first)
                    other = support.some_machine(chance, letters, second)
                    plus, product = machine_plus(one, other), machine_product(one, other)
                    self.assertEqual((len(plus.start()), len(product.start())), (first + second, first * second))
                    for text in support.all_words(letters, 4):
                        worths = machine_worth(one, text), machine_worth(other, text)
                        self.assertEqual(machine_worth(plus, text), worths[0] + worths[1])
                        self.assertEqual(machine_worth(product, text), worths[0] * worths[1])

    def test_their_bounds(self):
        self.assertEqual(len(machine_plus(zero_machine("a", 39), zero_machine("a", 1)).start()), 40)
        self.refuses_number(TooMany, 41, machine_plus, zero_machine("a", 40), zero_machine("a", 1))
        self.refuses_number(TooMany, 80, machine_plus, zero_machine("a", 40), zero_machine("a", 40))
        self.assertEqual(len(machine_product(zero_machine("a", 5), zero_machine("a", 8)).start()), 40)
        self.assertEqual(machine_product(zero_machine("a", 40), zero_machine("a", 0)).start(), [])
        self.refuses_number(TooMany, 42, machine_product, zero_machine("a", 6), zero_machine("a", 7))
        self.refuses_number(TooMany, 1600, machine_product, zero_machine("a", 40), zero_machine("a", 40))

    def test_wrong_arguments(self):
        one, other = zero_machine("ab", 40), zero_machine("ac", 40)
        for call in [machine_plus, machine_product]:
            self.refuses(Unlike, other, call, one, other)
            self.refuses(InvalidMachine, None, call, None, "wrong")
            self.refuses(InvalidMachine, "wrong", call, one, "wrong")

    def test_led(self):
        chance = support.chance(4003)
        for letters, other, rules in [
                ("ab", "xy", [("x", "ab"), ("y", "")]), ("ab", "abc", [("c", "bbab")]), ("ab", "a", []),
                ("ab", "abcd", [("b", "aa"), ("c", ""), ("d", "d"[1:] + "b" * 20)]), ("abcd", "ab", [("a", "dcba")]),
                ("a", "z", [("q", "zzz"), ("z", "aa")])]:
            for size in range(4):
                made = support.some_machine(chance, letters, size)
                found = machine_led(made, other, rules)
                self.assertEqual((found.letters(), len(found.start())), (other, size))
                for text in support.all_words(other, 3):
                    self.assertEqual(machine_worth(found, text), machine_worth(made, done(rules, text)))

    def test_led_wrongly(self):
        made = zero_machine("ab", 2)
        for other, wrong in [("abc", []), ("ab", [("a", "c")]), ("xy", [("x", "a")]), ("x", [("x", "ax")]),
                             ("ab", None), ("ab", [("a",)]), ("ab", [("b", "a"), ("a", "b")]), ("ab", [("a", "b" * 21)])]:
            self.refuses(InvalidRules, wrong, machine_led, made, other, wrong)
        self.refuses(InvalidLetters, "ba", machine_led, made, "ba", None)
        self.refuses(InvalidMachine, None, machine_led, None, "ba", None)
        self.assertEqual(machine_led(made, "ab", [("c", "d")]), made)


class Finites(support.TestCase):
    def test_what_was_given(self):
        moves = [[0, 1], [None, 1]]
        made = Finite("ab", moves, [1])
        moves[0][0] = 1
        self.assertEqual((made.letters(), made.moves(), made.ends()), ("ab", [[0, 1], [None, 1]], [1]))
        made.moves()[1][0] = 0
        made.ends().append(0)
        self.assertEqual((made.moves(), made.ends()), ([[0, 1], [None, 1]], [1]))
        self.assertTrue(made == Finite("ab", [[0, 1], [None, 1]], [1]))
        for other in [Finite("ac", [[0, 1], [None, 1]], [1]), Finite("ab", [[0, 1], [0, 1]], [1]),
                      Finite("ab", [[0, 1], [None, 1]], [0, 1])] + support.any_values():
            self.assertFalse(made == other)

    def test_lets_by_reading(self):
        chance = support.chance(4004)
        for letters in ["a", "ab", "abc"]:
            for states in range(1, 5):
                for gaps in [0, 0.3]:
                    made = support.some_finite(chance, letters, states, gaps)
                    for text in support.all_words(letters, 4):
                        self.assertIs(lets(made, text), support.plain_lets(made, text))

    def test_edges(self):
        self.assertIs(lets(Finite("ab", [[0, 0]], []), "ab"), False)
        self.assertIs(lets(Finite("ab", [[0, 0]], [0]), "abba"), True)
        self.assertIs(lets(Finite("ab", [[None, None]], [0]), ""), True)
        self.assertIs(lets(Finite("ab", [[None, None]], [0]), "a"), False)
        made = Finite("a", [[(state + 1) % 600] for state in range(600)], list(range(0, 600, 2)))
        self.assertIs(lets(made, "a" * 300), True)
        self.assertIs(lets(made, "a" * 299), False)

    def test_wrong_parts(self):
        for wrong in [None, [], [[]], [[0]], [[0, 0, 0]], [(0, 0)], ([0, 0],), [[0, 1]], [[0, -1]], [[0, True]],
                      [[0, "0"]], [[0, 0], [0, 2]], [[0, 0], None], [[0, 0]] * 601, {0: [0, 0]}, "ab"]:
            self.refuses(InvalidList, wrong, Finite, "ab", wrong, None)
        moves = [[0, 1], [None, 1]]
        for wrong in [None, (), (0,), [1, 0], [0, 0], [2], [-1], [True], [False, 1], [None], ["0"], [[0]], {0: 1}, 0]:
            self.refuses(InvalidList, wrong, Finite, "ab", moves, wrong)
        self.refuses(InvalidLetters, "ba", Finite, "ba", None, None)
        self.assertEqual(len(Finite("ab", [[0, 0]] * 600, [599]).moves()), 600)

    def test_wrong_arguments(self):
        made = Finite("ab", [[0, 0]], [0])
        for wrong in ["c", "abc", "A", None, 1]:
            self.refuses(InvalidText, wrong, lets, made, wrong)
        for wrong in [None, zero_machine("ab", 1), [[0, 0]]]:
            self.refuses(InvalidFinite, wrong, lets, wrong, None)
            self.refuses(InvalidFinite, wrong, machine_within, zero_machine("ab", 1), wrong)
        self.refuses(InvalidMachine, made, machine_within, made, None)
        other = Finite("ac", [[0, 0]] * 50, [0])
        self.refuses(Unlike, other, machine_within, zero_machine("ab", 1), other)

    def test_machine_within(self):
        chance = support.chance(4005)
        for letters in ["a", "ab"]:
            for size in range(4):
                for states in range(1, 4):
                    one = support.some_machine(chance, letters, size)
                    made = support.some_finite(chance, letters, states, 0.3)
                    found = machine_within(one, made)
                    self.assertEqual((found.letters(), len(found.start())), (letters, size * states))
                    for text in support.all_words(letters, 5):
                        worth = machine_worth(one, text) if lets(made, text) else 0
                        self.assertEqual(machine_worth(found, text), worth)

    def test_its_bounds(self):
        ten = Finite("a", [[(state + 1) % 10] for state in range(10)], [3])
        self.assertEqual(len(machine_within(zero_machine("a", 4), ten).start()), 40)
        self.refuses_number(TooMany, 50, machine_within, zero_machine("a", 5), ten)
        self.refuses_number(TooMany, 41, machine_within, zero_machine("a", 1), Finite("a", [[0]] * 41, []))
        self.refuses_number(TooMany, 24000, machine_within, zero_machine("a", 40), Finite("a", [[0]] * 600, []))
        self.assertEqual(machine_within(zero_machine("a", 0), Finite("a", [[0]] * 600, [])).start(), [])


class Limits(support.TestCase):
    def test_end_within_seconds(self):
        chance = support.chance(4006)
        made = support.some_machine(chance, "abcd", 40, support.BIG)
        self.in_seconds(machine_worth, made, support.some_text(chance, "abcd", 300))
        self.in_seconds(machine_led, made, "abcd", [(letter, "abcd" * 5) for letter in "abcd"])
        small = support.some_machine(chance, "abcd", 20, support.BIG)
        self.in_seconds(machine_plus, small, small)
        self.in_seconds(machine_product, support.some_machine(chance, "abcd", 5, 9), support.some_machine(
            chance, "abcd", 8, 9))
