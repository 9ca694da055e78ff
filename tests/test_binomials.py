"""Points [61] and [62]: rows of binomials."""

import itertools
import math

from skipcounts.binomials import binomial_row, row_product, row_value, signs
from skipcounts.errors import InvalidList, InvalidNumber
from tests import support

WRONG_ROWS = [None, True, 0, 1, "", "a", (), (1,), {}, [0], [1, 0], [None], [True], [1, True], ["1"], [[1]], [(1,)],
              [1, None, 1], [1, "a"], [False, 1]]


def plain_value(row, number):
    return sum(item * math.comb(number, at) for at, item in enumerate(row))


def plain_sign(number):
    return (number > 0) - (number < 0)


def sign_by(told, number):
    return [sign for start, sign in told if start <= number][-1]


class Examples(support.TestCase):
    def test_as_they_stand(self):
        self.assertEqual([row_value([0, 1, 1], 10), binomial_row([0, 1, 3, 6]), row_product([0, 1], [0, 1]),
                          signs([2, -3, 2])], [55, [0, 1, 1], [0, 1, 2], [(0, 1), (1, -1), (4, 1)]])


class Values(support.TestCase):
    def test_against_reckoning(self):
        chance = support.chance(3001)
        for _ in range(60):
            row = [chance.randint(-9, 9) for _ in range(chance.randint(0, 7))] + [chance.choice([-2, 1, 5])]
            for number in list(range(12)) + [100, 10 ** 6 + 3]:
                self.assertEqual(row_value(row, number), plain_value(row, number))
            self.assertEqual(binomial_row([plain_value(row, at) for at in range(len(row) + 2)]), row)
            self.assertEqual(binomial_row([plain_value(row, at) for at in range(len(row))]), row)

    def test_edges(self):
        self.assertEqual(row_value([], 0), 0)
        self.assertEqual(row_value([], 10 ** 300), 0)
        self.assertEqual(row_value([7], 10 ** 300), 7)
        self.assertEqual(row_value([0, 1], 10 ** 299), 10 ** 299)
        self.assertEqual(binomial_row([]), [])
        self.assertEqual(binomial_row([0]), [])
        self.assertEqual(binomial_row([0, 0, 0]), [])
        self.assertEqual(binomial_row([5, 5, 5]), [5])
        self.assertEqual(binomial_row([0, 0, 1]), [0, 0, 1])
        self.assertEqual(binomial_row([-1]), [-1])

    def test_products(self):
        chance = support.chance(3002)
        for _ in range(40):
            one, other = [binomial_row([chance.randint(-5, 5) for _ in range(chance.randint(0, 5))]) for _ in "ab"]
            found = row_product(one, other)
            self.assertTrue(found == [] or found[-1] != 0)
            self.assertEqual(found == [], one == [] or other == [])
            for number in range(15):
                self.assertEqual(plain_value(found, number), plain_value(one, number) * plain_value(other, number))

    def test_least_difference_of_two_rows(self):
        rows = [binomial_row(list(values)) for values in itertools.product([-1, 0, 2], repeat=3)]
        for one, other in itertools.product(rows, repeat=2):
            apart = [at for at in range(5) if row_value(one, at) != row_value(other, at)]
            items = [at for at in range(3) if (one + [0] * 3)[at] != (other + [0] * 3)[at]]
            self.assertEqual(apart[:1], items[:1])


class Signs(support.TestCase):
    def check(self, row, most):
        found = signs(row)
        self.assertEqual(found[0][0], 0)
        for (start, sign), (after, other) in zip(found, found[1:]):
            self.assertLess(start, after)
            self.assertNotEqual(sign, other)
        for number in range(most):
            self.assertEqual(sign_by(found, number), plain_sign(plain_value(row, number)), (row, number))
        return found

    def test_against_reckoning(self):
        for items in itertools.product([-3, -1, 0, 1, 4], repeat=4):
            row = list(items)
            while row and row[-1] == 0:
                row.pop()
            found = self.check(row, 40)
            self.assertEqual(found[-1][1], plain_sign(row[-1]) if row else 0)

    def test_many_signs(self):
        chance = support.chance(3003)
        for _ in range(60):
            values = [chance.choice([-1, 0, 0, 1, 2]) for _ in range(9)]
            row = binomial_row(values)
            found = self.check(row, 60)
            self.assertEqual([sign_by(found, at) for at in range(9)], [plain_sign(value) for value in values])

    def test_edges(self):
        self.assertEqual(signs([]), [(0, 0)])
        self.assertEqual(signs([-1]), [(0, -1)])
        self.assertEqual(signs([0, 0, 0, 1]), [(0, 0), (3, 1)])
        self.assertEqual(signs([-5, 1]), [(0, -1), (5, 0), (6, 1)])
        self.assertEqual(signs([5, -1]), [(0, 1), (5, 0), (6, -1)])

    def test_far_away(self):
        far = 10 ** 299
        self.assertEqual(signs([-far, 1]), [(0, -1), (far, 0), (far + 1, 1)])
        self.assertEqual(signs([1 - 2 * far, 2]), [(0, -1), (far, 1)])
        # (n - far) * (n - far - 3) is n * (n - 1) + ..: below 0 at two counts only.
        row = binomial_row([(at - far) * (at - far - 3) for at in range(3)])
        self.assertEqual(signs(row), [(0, 1), (far, 0), (far + 1, -1), (far + 3, 0), (far + 4, 1)])


class Wrong(support.TestCase):
    def test_rows(self):
        for wrong in WRONG_ROWS:
            self.refuses(InvalidList, wrong, row_value, wrong, None)
            self.refuses(InvalidList, wrong, row_product, wrong, None)
            self.refuses(InvalidList, wrong, row_product, [], wrong)
            self.refuses(InvalidList, wrong, signs, wrong)
            if wrong not in ([0], [1, 0]):
                self.refuses(InvalidList, wrong, binomial_row, wrong)

    def test_numbers(self):
        for wrong in [None, True, -1, "1", [1], (1,), -10 ** 300]:
            self.refuses(InvalidNumber, wrong, row_value, [1], wrong)


class Limits(support.TestCase):
    def test_end_within_seconds(self):
        chance = support.chance(3004)
        for _ in range(3):
            row = [chance.choice([-1, 1]) * chance.randrange(10 ** 299, 10 ** 300) for _ in range(13)]
            self.in_seconds(row_value, row, 10 ** 300 - 1)
            self.in_seconds(row_product, row, row)
            self.in_seconds(signs, row)
            self.assertEqual(binomial_row([row_value(row, at) for at in range(13)]), row)
        # Twelve places, far from each other, at which the sign turns.
        places = [10 ** (2 * at + 1) for at in range(12)]
        row = binomial_row([math.prod(at - place for place in places) for at in range(13)])
        self.assertEqual(len(row), 13)
        found = self.in_seconds(signs, row)
        self.assertEqual([start for start, sign in found if sign == 0], places)
        self.assertEqual(len(found), 25)
