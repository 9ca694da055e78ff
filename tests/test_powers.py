"""Points [63] to [65]: powers of a text, families of texts, and grids."""

import itertools
import math

from skipcounts.binomials import row_value
from skipcounts.errors import InvalidList, InvalidNumber, InvalidSum, TooLong
from skipcounts.powers import families_part, family_grid, family_row, grid_value, grids_part, member, power_row
from skipcounts.readings import count
from skipcounts.sums import Sum
from tests import support

FAR = 10 ** 29
PAIR = [("a", (0, 1)), ("b", (2, 0)), ("a", (1, 1))]
WRONG_FAMILIES = [
    None, True, 1, "", "a", (), (("a", (0, 1)),), {}, [None], ["a"], [("a",)], [("a", 1)], [["a", (0, 1)]],
    [("a", [0, 1])], [("A", (0, 1))], [(1, (0, 1))], [("a" * 13, (0, 1))], [("a", (0,))], [("a", (0, 1, 2, 3, 4))],
    [("a", ())], [("a", (0, -1))], [("a", (True, 1))], [("a", (0, None))], [("a", (0, "1"))], [("a", (0, 1), 1)],
    [("a", (0, 1))] * 9, [("a", (0, 1)), ("b", (0, 1)), None], [("a", (0, 1)), ("b", (0, (1,)))]]


def plain_member(family, point):
    made = ""
    for text, form in family:
        for _ in range(form[0] + sum(times * own for times, own in zip(form[1:], point))):
            made += text
    return made


def points_up_to(many, most):
    found = [list(point) for point in itertools.product(range(most + 1), repeat=many) if sum(point) <= most]
    return sorted(found, key=lambda point: (sum(point), point))


def some_family(chance, many, letters, most=3, size=2):
    return [(support.some_text(chance, letters, chance.randint(0, size)),
             tuple(chance.randint(0, 2) for _ in range(many + 1))) for _ in range(chance.randint(0, most))]


def plain_grid_value(grid, point):
    return sum(number * math.prod(math.comb(own, index) for own, index in zip(point, indices))
               for indices, number in grid)


class Examples(support.TestCase):
    def test_as_they_stand(self):
        ab = Sum([("ab", 1)])
        self.assertEqual([power_row("ab", "ab"), power_row("aba", "ab"), member(1, PAIR, [1]),
                          family_row(Sum([("aba", 1)]), PAIR)], [[0, 1, 1], [0, 0, 1, 1], "abbaa", [0, 4, 4]])
        self.assertEqual([family_grid(2, ab, [("a", (1, 1, 0)), ("b", (0, 0, 2))]),
                          grid_value(2, [((0, 1), 2), ((1, 1), 2)], [3, 5]),
                          grids_part(2, [((1, 1), 1)], [((0, 2), 1)])], [[((0, 1), 2), ((1, 1), 2)], 40, [0, 2]])
        one, other = [("ab", (0, 1)), ("a", (1, 0))], [("a", (1, 0)), ("ba", (0, 1))]
        self.assertEqual([families_part(1, one, other, 4), families_part(1, one, [("a", (1, 0)), ("ab", (0, 1))], 4)],
                         [None, ([1], "ab")])


class Powers(support.TestCase):
    def test_against_writing_out(self):
        chance = support.chance(6301)
        for _ in range(150):
            word = support.some_text(chance, "ab", chance.randint(0, 5))
            text = support.some_text(chance, "abc", chance.randint(0, 4))
            row = power_row(word, text)
            self.assertTrue(row == [] or row[-1] != 0)
            for many in range(7):
                self.assertEqual(row_value(row, many), count(word, text * many), (word, text, many))

    def test_items_are_readings_with_a_place_in_each_copy(self):
        for word in support.all_words("ab", 4):
            for text in ["a", "ab", "aab", "bab"]:
                row = power_row(word, text) + [0] * 5
                for copies in range(5):
                    readings = support.all_readings(word, text * copies)
                    full = [places for places in readings
                            if {place // len(text) for place in places} == set(range(copies))]
                    self.assertEqual(row[copies], len(full), (word, text))

    def test_edges(self):
        self.assertEqual(power_row("", ""), [1])
        self.assertEqual(power_row("", "abc"), [1])
        self.assertEqual(power_row("a", ""), [])
        self.assertEqual(power_row("a", "b"), [])
        self.assertEqual(power_row("aaa", "a"), [0, 0, 0, 1])
        self.assertEqual(power_row("abab", "ab"), [0, 0, 1, 2, 1])
        self.assertEqual(row_value(power_row("ab", "ab"), FAR), FAR * (FAR + 1) // 2)

    def test_at_the_limits(self):
        for word, text in [("ab" * 6, "ab" * 150), ("a" * 12, "a" * 300), ("abcdefghijkl", "lkjihgfedcba" * 25)]:
            row = self.in_seconds(power_row, word, text)
            self.assertEqual(row_value(row, 1), count(word, text))
            self.assertEqual(row_value(row, 2), count(word, text * 2))
        # 300 figures in a count are let in rows of binomials.
        self.assertEqual(row_value(power_row("aa", "a"), 10 ** 299), 10 ** 299 * (10 ** 299 - 1) // 2)


class Members(support.TestCase):
    def test_against_writing_out(self):
        chance = support.chance(6401)
        for _ in range(100):
            many = chance.randint(1, 3)
            family = some_family(chance, many, "abc", 8)
            point = [chance.randint(0, 2) for _ in range(many)]
            self.assertEqual(member(many, family, point), plain_member(family, point))

    def test_edges(self):
        self.assertEqual(member(1, [], [5]), "")
        self.assertEqual(member(3, [], [0, FAR, 1]), "")
        self.assertEqual(member(2, [("", (FAR, FAR, 0)), ("ab", (0, 0, 2)), ("c", (1, 0, 0))], [FAR, 1]), "ababc")
        self.assertEqual(member(1, [("ab", (0, FAR)), ("c", (0, 0))], [0]), "")
        self.assertEqual(member(3, [("ab", (0, 0, 0, 0)), ("c", (0, 0, 1, 0))], [FAR, 2, FAR]), "cc")
        self.assertEqual(family_grid(2, Sum([("a", 1), ("", 3)]), [("a", (0, 0, 0))] * 8), [((0, 0), 3)])
        self.assertEqual(member(1, [("a", (299, 1))], [1]), "a" * 300)
        self.refuses_number(TooLong, 301, member, 1, [("a", (299, 1))], [2])
        self.refuses_number(TooLong, 12 * FAR * FAR + 4, member, 1, [("abcabcabcabc", (0, FAR)), ("ab", (2, 0))], [FAR])
        self.assertEqual(member(1, [("abcabcabcabc", (25, 0))], [FAR]), "abc" * 100)
        self.refuses_number(TooLong, 312, member, 1, [("abcabcabcabc", (26, 0))], [FAR])

    def test_rows_against_writing_out(self):
        chance = support.chance(6402)
        for _ in range(60):
            family = some_family(chance, 1, "ab", 4)
            total = support.some_sum(chance, "ab", 4, 4)
            row = family_row(total, family)
            self.assertTrue(row == [] or row[-1] != 0)
            for number in range(7):
                self.assertEqual(row_value(row, number), total.worth(plain_member(family, [number])))

    def test_rows_at_edges(self):
        self.assertEqual(family_row(Sum([]), PAIR), [])
        self.assertEqual(family_row(Sum([("", 7)]), PAIR), [7])
        self.assertEqual(family_row(Sum([("", 7)]), []), [7])
        self.assertEqual(family_row(Sum([("a", 7)]), []), [])
        self.assertEqual(family_row(Sum([("a", 1)]), [("a", (FAR, FAR - 1)), ("", (1, 1))]), [FAR, FAR - 1])
        self.assertEqual(family_row(Sum([("ab", 1), ("ba", -1)]), [("ab", (0, 1)), ("ba", (0, 1))]), [])

    def test_a_family_has_at_most_eight_tuples_and_texts_of_twelve_letters(self):
        self.assertEqual(member(1, [("a" * 12, (0, 1))] * 8, [1]), "a" * 96)
        for wrong in [[("a", (0, 1))] * 9, [("a" * 13, (0, 1))]]:
            self.refuses(InvalidList, wrong, member, 1, wrong, [1])
            self.refuses(InvalidList, wrong, family_row, Sum([]), wrong)
            self.refuses(InvalidList, wrong, family_grid, 1, Sum([]), wrong)


class Grids(support.TestCase):
    def test_values(self):
        chance = support.chance(6501)
        for _ in range(60):
            many = chance.randint(1, 3)
            items = sorted({tuple(chance.randint(0, 2) for _ in range(many)) for _ in range(4)})
            grid = [(indices, chance.choice([-3, 1, 2])) for indices in items]
            for point in points_up_to(many, 4):
                self.assertEqual(grid_value(many, grid, point), plain_grid_value(grid, point))
        self.assertEqual(grid_value(1, [], [FAR]), 0)
        self.assertEqual(grid_value(2, [((0, 0), -5)], [0, FAR]), -5)
        self.assertEqual(grid_value(1, [((2,), FAR)], [FAR]), FAR * (FAR * (FAR - 1) // 2))
        self.assertEqual(grid_value(1, [((2,), 1)], [1]), 0)

    def test_least_point_that_parts(self):
        chance = support.chance(6502)
        for _ in range(150):
            many = chance.randint(1, 3)
            grids = []
            for _ in range(2):
                items = sorted({tuple(chance.randint(0, 2) for _ in range(many)) for _ in range(chance.randint(0, 3))})
                grids.append([(indices, chance.choice([1, 2])) for indices in items])
            one, other = grids
            apart = [point for point in points_up_to(many, 6)
                     if plain_grid_value(one, point) != plain_grid_value(other, point)]
            found = grids_part(many, one, other)
            self.assertEqual(found, apart[0] if apart else None)
            self.assertEqual(found is None, one == other)
        self.assertIsNone(grids_part(3, [], []))
        self.assertEqual(grids_part(2, [], [((0, 0), 1)]), [0, 0])
        self.assertEqual(grids_part(2, [((0, 0), 1)], [((0, 0), 1), ((1, 0), 1)]), [1, 0])
        self.assertEqual(grids_part(2, [((0, 1), 1), ((1, 0), 1)], []), [0, 1])

    def test_grids_of_families(self):
        chance = support.chance(6503)
        for _ in range(50):
            many = chance.randint(1, 3)
            family = some_family(chance, many, "ab", 3)
            total = support.some_sum(chance, "ab", 3, 3)
            grid = family_grid(many, total, family)
            self.assertEqual(grid, sorted(grid))
            self.assertEqual(len({indices for indices, _ in grid}), len(grid))
            self.assertTrue(all(number for _, number in grid))
            for point in points_up_to(many, 5 if many < 3 else 4):
                self.assertEqual(grid_value(many, grid, point), total.worth(plain_member(family, point)))
            if many == 1:
                row = family_row(total, family)
                self.assertEqual(grid, [((at,), number) for at, number in enumerate(row) if number])
        self.assertEqual(family_grid(3, Sum([]), []), [])
        self.assertEqual(family_grid(3, Sum([("", -2)]), []), [((0, 0, 0), -2)])

    def test_families_that_part(self):
        chance = support.chance(6504)
        alike = 0
        for _ in range(150):
            many, depth = chance.randint(1, 2), chance.randint(0, 3)
            one, other = [some_family(chance, many, "ab", 3, 1) for _ in "ab"]
            if chance.random() < 0.3:
                other = one[::-1]
            words = support.all_words("ab", depth)
            expected = None
            for point in points_up_to(many, depth + 2):
                texts = [plain_member(family, point) for family in (one, other)]
                apart = [word for word in words if count(word, texts[0]) != count(word, texts[1])]
                if apart:
                    expected = (point, apart[0])
                    break
            self.assertEqual(families_part(many, one, other, depth), expected)
            alike += expected is None
        self.assertGreater(alike, 30)
        self.assertIsNone(families_part(3, [], [], 4))
        self.assertIsNone(families_part(1, [("a", (1, 0))], [("b", (1, 0))], 0))
        self.assertEqual(families_part(1, [("a", (1, 0))], [("b", (1, 0))], 1), ([0], "a"))
        self.assertEqual(families_part(2, [("a", (0, 0, 1))], [("a", (0, 1, 0))], 1), ([0, 1], "a"))
        self.assertEqual(families_part(1, [("a", (FAR, FAR))], [("a", (FAR, FAR - 1))], 4), ([1], "a"))

    def test_at_the_limits(self):
        chance = support.chance(6505)
        family = [(support.some_text(chance, "abcdefgh", 12), (FAR, FAR - 1, FAR, 7)) for _ in range(8)]
        total = Sum([(support.some_text(chance, "abcdefgh", 4), chance.randint(1, 9)) for _ in range(40)])
        grid = self.in_seconds(family_grid, 3, total, family)
        self.assertTrue(grid)
        self.in_seconds(grid_value, 3, grid, [FAR, FAR, FAR])
        one = [(text, form[:2]) for text, form in family]
        row = self.in_seconds(family_row, total, one)
        self.assertEqual([((at,), number) for at, number in enumerate(row) if number], family_grid(1, total, one))
        first = [(support.some_text(chance, "ab", 12), (FAR, 1, 2, 3)) for _ in range(8)]
        self.assertIsNone(self.in_seconds(families_part, 3, first, list(first), 4))
        first = [(support.some_text(chance, "abc", 12), (FAR, 1, 2, 3)) for _ in range(8)]
        self.assertIsNone(self.in_seconds(families_part, 3, first, list(first), 3))


class Wrong(support.TestCase):
    def test_families(self):
        for wrong in WRONG_FAMILIES:
            self.refuses(InvalidList, wrong, member, 1, wrong, None)
            self.refuses(InvalidList, wrong, family_row, Sum([]), wrong)
            self.refuses(InvalidList, wrong, family_grid, 1, Sum([]), wrong)
            self.refuses(InvalidList, wrong, families_part, 1, wrong, None, None)
            self.refuses(InvalidList, wrong, families_part, 1, [], wrong, None)
        family = [("a", (0, 1, 2))]
        self.refuses(InvalidList, family, member, 1, family, [1])
        self.refuses(InvalidList, family, member, 3, family, [1, 1, 1])
        self.refuses(InvalidList, family, family_row, Sum([]), family)

    def test_points(self):
        for wrong in [None, 1, (1,), [], [1, 2], [-1], [True], ["1"], [None], {}, [[1]]]:
            self.refuses(InvalidList, wrong, member, 1, [], wrong)
            self.refuses(InvalidList, wrong, grid_value, 1, [], wrong)

    def test_grids(self):
        for wrong in [None, 1, (), {}, [None], [((1,),)], [((1,), 0)], [((1,), True)], [((1,), 1, 1)], [[(1,), 1]],
                      [([1], 1)], [((1, 1), 1)], [((), 1)], [((-1,), 1)], [((True,), 1)], [(("1",), 1)], [((1,), "1")],
                      [((1,), 1), ((1,), 2)], [((2,), 1), ((1,), 1)], [((1,), 1), ((2,), 0)]]:
            self.refuses(InvalidList, wrong, grid_value, 1, wrong, None)
            self.refuses(InvalidList, wrong, grids_part, 1, wrong, None)
            self.refuses(InvalidList, wrong, grids_part, 1, [], wrong)

    def test_numbers_and_order(self):
        for wrong in [None, True, 0, 4, -1, "1", [1], 10 ** 29]:
            for call in [member, grid_value, grids_part, family_grid]:
                self.refuses(InvalidNumber, wrong, call, wrong, None, None)
            self.refuses(InvalidNumber, wrong, families_part, wrong, None, None, None)
        for wrong in [None, True, -1, 5, "1", [1]]:
            self.refuses(InvalidNumber, wrong, families_part, 1, [], [], wrong)
        self.refuses(InvalidSum, None, family_row, None, None)
        self.refuses(InvalidSum, None, family_grid, 1, None, None)
        big = [("a", (301, 0))]
        self.refuses(InvalidList, None, member, 1, big, None)
        self.refuses_number(TooLong, 301, member, 1, big, [0])
