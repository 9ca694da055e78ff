"""Points [47] and [48]: ranks, tests, rows, bases and least machines, and whether the order of letters matters."""

import itertools

from skipcounts.errors import InvalidMachine, InvalidText
from skipcounts.finites import Finite, machine_within
from skipcounts.leastmachines import basis, least_machine, order_matters, rank, row_at, tests
from skipcounts.registers import Machine, counting_machine, machine_led, machine_plus, machine_product, machine_worth
from tests import support

A, B, AB, BA = [counting_machine("ab", word) for word in ["a", "b", "ab", "ba"]]
BOTH = machine_product(A, B)
TWICE = machine_plus(counting_machine("a", "a"), counting_machine("a", "a"))
NOTHING = Machine("ab", [], [[], []], [])


def some_machines(number, many):
    """Machines with few numbers, some with more registers than their rank."""
    chance = support.chance(number)
    for _ in range(many):
        letters = chance.choice(["a", "ab", "ab", "abc"])
        made = support.some_machine(chance, letters, chance.randint(0, 3), chance.choice([1, 2, 3]))
        kind = chance.randint(0, 3)
        if kind == 1:
            made = machine_plus(made, support.some_machine(chance, letters, 1, 2))
        if kind == 2:
            made = machine_within(made, support.some_finite(chance, letters, 2, 0.3))
        if kind == 3:
            made = machine_led(made, letters, [(letters[0], letters[-1])])
        yield made


class Examples(support.TestCase):
    def test_as_they_stand(self):
        self.assertEqual([rank(AB), tests(AB), row_at(AB, "ab"), rank(BOTH)], [3, ["", "b", "ab"], [1, 2, 3], 4])
        self.assertEqual([least_machine(AB).start(), least_machine(AB).tables(), least_machine(AB).out()],
                         [[0, 0, 1], [[[1, 0, 0], [0, 0, -1], [0, 1, 2]], [[0, -1, -1], [1, 2, 1], [0, 0, 1]]],
                          [1, 0, 0]])
        self.assertEqual([basis(TWICE), least_machine(TWICE).start(), least_machine(TWICE).tables(),
                          least_machine(TWICE).out()], [[[2, 0], [0, 2]], [0, 1], [[[0, -1], [1, 2]]], [2, 0]])
        self.assertEqual([least_machine(machine_plus(AB, BA)) == least_machine(BOTH), order_matters(AB),
                          order_matters(BOTH)], [True, ("", "a", "b", ""), None])


class Ranks(support.TestCase):
    def test_against_all_texts(self):
        for made in some_machines(4701, 60):
            size = min(len(made.start()), 4 if len(made.letters()) < 3 else 3)
            texts = support.all_words(made.letters(), size)
            worths = {text: support.plain_machine_worth(made, text)
                      for text in support.all_words(made.letters(), 2 * size)}
            columns = {end: [worths[head + end] for head in texts] for end in texts}
            kept = []
            for end in texts:
                if not support.is_made([columns[each] for each in kept], columns[end]):
                    kept.append(end)
            if len(made.start()) <= size:
                self.assertEqual(rank(made), len(kept))
                self.assertEqual(tests(made), kept)
                for text in texts:
                    self.assertEqual(row_at(made, text), [worths[text + end] for end in kept])
            for end in tests(made):
                self.assertLess(len(end), rank(made))

    def test_basis(self):
        for made in some_machines(4702, 60):
            rows = [row_at(made, text) for text in support.all_words(made.letters(), 4)]
            found = basis(made)
            self.assertEqual(found, support.plain_stairs(rows))
            self.assertEqual(len(found), rank(made))
            for at, row in enumerate(found):
                self.assertEqual(row[:at], [0] * at)
                self.assertGreater(row[at], 0)

    def test_edges(self):
        for made in [NOTHING, Machine("ab", [0], [[[1]], [[1]]], [1]), Machine("ab", [1], [[[1]], [[1]]], [0]),
                     machine_within(AB, Finite("ab", [[0, 0]], []))]:
            self.assertEqual((rank(made), tests(made), row_at(made, "ab"), basis(made)), (0, [], [], []))
            self.assertEqual(least_machine(made), NOTHING)
            self.assertIsNone(order_matters(made))
        self.assertEqual(basis(Machine("a", [6], [[[1]]], [10])), [[60]])
        self.assertEqual(rank(machine_product(AB, BA)), 8)


class LeastMachines(support.TestCase):
    def test_tells_the_same(self):
        for made in some_machines(4703, 60):
            found = least_machine(made)
            self.assertEqual(len(found.start()), rank(made))
            for text in support.all_words(made.letters(), 4):
                self.assertEqual(machine_worth(found, text), support.plain_machine_worth(made, text))
            self.assertEqual(least_machine(found), found)

    def test_registers_tell_how_often_the_basis_is_taken(self):
        def taken(row, steps):
            return [sum(number * step[at] for number, step in zip(row, steps)) for at in range(len(steps))]
        for made in some_machines(4704, 40):
            found, steps = least_machine(made), basis(made)
            self.assertEqual(found.out(), [step[0] for step in steps])
            self.assertEqual(taken(found.start(), steps), row_at(made, ""))
            for text in support.all_words(made.letters(), 3):
                self.assertEqual(taken(support.plain_held(found, text), steps), row_at(made, text))
            self.assertEqual((found.letters(), len(found.tables())), (made.letters(), len(made.letters())))

    def test_equal_exactly_if_they_tell_the_same(self):
        machines = list(some_machines(4705, 40)) + [AB, BA, BOTH, machine_plus(AB, BA), machine_plus(BA, AB), NOTHING]
        for one, other in itertools.combinations(machines, 2):
            if one.letters() == other.letters():
                size = {"a": 8, "ab": 6, "abc": 4}[one.letters()]
                same = all(support.plain_machine_worth(one, text) == support.plain_machine_worth(other, text)
                           for text in support.all_words(one.letters(), 3))
                same = same and all(machine_worth(one, text) == machine_worth(other, text)
                                    for text in support.all_words(one.letters(), size))
                self.assertEqual(least_machine(one) == least_machine(other), same)

    def test_lists_that_no_row_is(self):
        # Rows 4 and 6 make 2, though no text has the row 2 or 1.
        made = Machine("ab", [2, 0], [[[0, 2], [0, 1]], [[0, 3], [0, 1]]], [0, 1])
        self.assertEqual(basis(made), support.plain_stairs([row_at(made, text) for text in ["", "a", "b"]]))
        self.assertEqual(rank(made), 2)
        self.assertEqual(basis(made)[0], [2, 2])


class Orders(support.TestCase):
    def test_against_all_texts(self):
        seen = {True: 0, False: 0}
        machines = list(some_machines(4801, 60)) + [AB, BA, BOTH, machine_plus(AB, BA), machine_product(AB, BA)]
        machines += [counting_machine("ab", word) for word in support.all_words("ab", 3)]
        machines += [machine_product(machine_plus(one, one), other) for one in [A, B] for other in [A, B]]
        for made in machines:
            size = 4 if len(made.letters()) < 3 else 3
            found = []
            for total in range(size - 1):
                for start, end in itertools.product(support.all_words(made.letters(), total), repeat=2):
                    if len(start) + len(end) == total:
                        for one, other in itertools.combinations(made.letters(), 2):
                            worths = [support.plain_machine_worth(made, start + pair + end)
                                      for pair in [one + other, other + one]]
                            if worths[0] != worths[1]:
                                found.append((total, support.text_key(start), support.text_key(end), one, other))
            told = order_matters(made)
            seen[told is None] += 1
            if told is None or len(told[0]) + len(told[3]) > size - 2:
                self.assertEqual(found, [])
            else:
                _, (_, start), (_, end), one, other = min(found)
                self.assertEqual(told, (start, one, other, end))
        self.assertGreater(min(seen.values()), 10)

    def test_edges(self):
        self.assertIsNone(order_matters(Machine("a", [1, 2], [[[1, 1], [0, 1]]], [1, 1])))
        self.assertEqual(order_matters(counting_machine("abc", "bc")), ("", "b", "c", ""))
        self.assertEqual(order_matters(counting_machine("abc", "abc")), ("", "a", "b", "c"))
        self.assertEqual(order_matters(counting_machine("ab", "aab")), ("a", "a", "b", ""))


class Wrong(support.TestCase):
    def test_arguments(self):
        for call in [rank, tests, basis, least_machine, order_matters]:
            for wrong in [None, True, 1, "ab", [AB], Finite("a", [[0]], [])]:
                self.refuses(InvalidMachine, wrong, call, wrong)
        self.refuses(InvalidMachine, None, row_at, None, None)
        for wrong in ["c", "abc", "A", None, 1, ["a"]]:
            self.refuses(InvalidText, wrong, row_at, AB, wrong)


class Limits(support.TestCase):
    def test_end_within_seconds(self):
        chance = support.chance(4802)
        for letters in ["a", "ab", "abcd"]:
            machines = [support.some_machine(chance, letters, 10, 1000), support.some_machine(chance, letters, 10, 1)]
            machines.append(machine_plus(*[support.some_machine(chance, letters, 5, 1000)] * 2))
            machines.append(counting_machine(letters, "a" * 9))
            for made in machines:
                for call in [rank, tests, basis, least_machine, order_matters]:
                    self.in_seconds(call, made)
                self.in_seconds(row_at, made, support.some_text(chance, letters, 300))
