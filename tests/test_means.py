"""Points [87] to [89]: means, and what holds for all texts."""

import itertools
import math
from fractions import Fraction

from skipcounts.errors import InvalidLetters, InvalidNumber, InvalidSum, InvalidText
from skipcounts.means import arranged_mean, below_zero, mean, means_part, unfair
from skipcounts.sums import Sum, plus, times
from tests import support

FAR = 10 ** 29


def arrangements(text):
    return sorted({"".join(signs) for signs in itertools.permutations(text)})


def plain_mean(total, texts):
    found = Fraction(sum(support.plain_worth(total, text) for text in texts), len(texts))
    return (found.numerator, found.denominator)


def quadratic(numbers):
    """The sum over two letters with these numbers."""
    return Sum(list(zip(["", "a", "b", "aa", "ab", "ba", "bb"], numbers)))


def two_runs(size):
    """All texts of this form with so many letters, in order."""
    return sorted({"a" * first + "b" * (size - first) for first in range(size + 1)}
                  | {"b" * first + "a" * (size - first) for first in range(size + 1)})


def run_worth(numbers, text):
    p, q = text.count("a"), text.count("b")
    across = numbers[4] if text.startswith("a") else numbers[5]
    return (numbers[0] + numbers[1] * p + numbers[2] * q + numbers[3] * math.comb(p, 2)
            + numbers[6] * math.comb(q, 2) + across * p * q)


def plain_below(numbers, most):
    for size in range(most + 1):
        for text in two_runs(size):
            if run_worth(numbers, text) < 0:
                return text
    return None


def is_never_below(numbers):
    """Whether no worth is below 0, decided by the kinds of the squares, with fractions."""
    c, u, v, aa, bb = numbers[0], numbers[1], numbers[2], numbers[3], numbers[6]
    ab = min(numbers[4], numbers[5])

    def line_is_never_below(start, slope, bend):
        """Whether start + slope * n + bend * n * (n - 1) / 2 is at least 0 at all counts."""
        if bend < 0 or (bend == 0 and slope < 0):
            return False
        most = 0 if bend == 0 else max(0, -slope // bend + 2)
        return all(start + slope * n + bend * math.comb(n, 2) >= 0 for n in {0, max(0, most - 3), max(0, most - 2),
                                                                             max(0, most - 1), most, most + 1})
    if aa < 0 or bb < 0 or (ab < 0 and ab * ab > aa * bb):
        return False
    if not line_is_never_below(c, u, aa) or not line_is_never_below(c, v, bb):
        return False
    if ab >= 0 and (aa == 0 or bb == 0):
        # Along a letter without squares nothing falls, if it does not where the other letter is missing.
        return True
    if ab < 0 and ab * ab == aa * bb:
        step = math.gcd(aa, -ab)
        p, q = -ab // step, aa // step
        # Beside the line of such steps worths are told by those with few of one letter.
        rise = Fraction(2 * u - aa, 2) * p + Fraction(2 * v - bb, 2) * q
        if rise < 0:
            return False
        return (all(line_is_never_below(c + u * n + aa * math.comb(n, 2), v + ab * n, bb) for n in range(p))
                and all(line_is_never_below(c + v * n + bb * math.comb(n, 2), u + ab * n, aa) for n in range(q)))
    # The squares grow in all directions: for each number of one letter the best of the other one is told by a line,
    # up to a number from which on the squares are greater than all the rest.
    det = aa * bb - ab * ab if ab < 0 else min(aa, bb) ** 2
    most = (20 * (aa + bb) * (abs(u) + abs(v) + aa + bb + abs(c))) // det + 10
    return all(line_is_never_below(c + u * n + aa * math.comb(n, 2), v + ab * n, bb) for n in range(most))


class Examples(support.TestCase):
    def test_as_they_stand(self):
        pair, turned = Sum([("ab", 1)]), Sum([("ba", 1)])
        self.assertEqual([mean("ab", pair, 3), means_part("ab", pair, turned), arranged_mean(pair, "aab"),
                          unfair(Sum([("ab", 1), ("ba", -1)])), unfair(Sum([("ab", 1), ("ba", 1), ("aab", -1)]))],
                         [(3, 4), None, (1, 1), None, "ab"])
        even = Sum([("aa", 2), ("a", 1), ("bb", 2), ("b", 1), ("ab", -2), ("ba", -2)])
        self.assertEqual([below_zero("ab", even), below_zero("ab", Sum([("", 3), ("aa", 2), ("bb", 2), ("ab", -3)]))],
                         [None, "aab"])


class Means(support.TestCase):
    def test_against_listing(self):
        chance = support.chance(8701)
        for _ in range(80):
            letters = chance.choice(["a", "ab", "abc"])
            total = support.some_sum(chance, "abc", 4, 3)
            for size in range({"a": 6, "ab": 5, "abc": 4}[letters]):
                texts = ["".join(signs) for signs in itertools.product(letters, repeat=size)]
                self.assertEqual(mean(letters, total, size), plain_mean(total, texts))

    def test_edges(self):
        self.assertEqual(mean("a", Sum([]), 0), (0, 1))
        self.assertEqual(mean("abcd", Sum([("", -3)]), FAR), (-3, 1))
        self.assertEqual(mean("a", Sum([("aa", 2)]), FAR), (FAR * (FAR - 1), 1))
        self.assertEqual(mean("ab", Sum([("a", 1)]), FAR), (FAR // 2, 1))
        self.assertEqual(mean("ab", Sum([("a", -1)]), 3), (-3, 2))
        self.assertEqual(mean("ab", Sum([("c", 5), ("ac", 7)]), 3), (0, 1))
        self.assertEqual(mean("abcd", Sum([("a" * 12, 4 ** 12)]), 11), (0, 1))
        self.assertEqual(mean("abcd", Sum([("a" * 12, 4 ** 12)]), 12), (1, 1))

    def test_least_size_with_unlike_means(self):
        chance = support.chance(8702)
        found = set()
        for _ in range(200):
            letters = chance.choice(["a", "ab"])
            one = support.some_sum(chance, "ab", 3, 3, 2)
            other = support.some_sum(chance, "ab", 3, 3, 2)
            if chance.random() < 0.4:
                other = Sum([(word[::-1], number) for word, number in one.terms()])
            sizes = [size for size in range(7) if mean(letters, one, size) != mean(letters, other, size)]
            self.assertEqual(means_part(letters, one, other), sizes[0] if sizes else None)
            found.add(sizes[0] if sizes else None)
        self.assertEqual(found, {None, 0, 1, 2, 3})
        self.assertIsNone(means_part("a", Sum([]), Sum([])))
        self.assertEqual(means_part("a", Sum([]), Sum([("", 1)])), 0)
        self.assertEqual(means_part("ab", Sum([("a" * 12, 1)]), Sum([])), 12)
        self.assertIsNone(means_part("ab", Sum([("ac", 1)]), Sum([("bc", 2)])))


class Arranged(support.TestCase):
    def test_against_listing(self):
        chance = support.chance(8801)
        for _ in range(120):
            total = support.some_sum(chance, "abc", 4, 3)
            text = support.some_text(chance, "abcd", chance.randint(0, 6))
            self.assertEqual(arranged_mean(total, text), plain_mean(total, arrangements(text)))

    def test_first_text_that_is_unfair(self):
        chance = support.chance(8802)
        kinds = []
        texts = support.all_words("ab", 4) + support.all_words("abc", 3)
        texts = sorted(set(texts), key=support.text_key)
        for _ in range(150):
            total = support.some_sum(chance, chance.choice(["ab", "abc"]), 3, 3, 2)
            turned = Sum([("".join(chance.sample(word, len(word))), -number) for word, number in total.terms()])
            total = plus(total, turned) if chance.random() < 0.6 else total
            listed = next((text for text in texts if arranged_mean(total, text) != (0, 1)), None)
            self.assertEqual(unfair(total), listed)
            groups = {}
            for word, number in total.terms():
                key = "".join(sorted(word))
                groups[key] = groups.get(key, 0) + number
            self.assertEqual(listed is None, not any(groups.values()))
            kinds.append(listed)
        self.assertGreater(kinds.count(None), 20)
        self.assertGreater(len(set(kinds)), 6)

    def test_edges(self):
        self.assertEqual(arranged_mean(Sum([]), ""), (0, 1))
        self.assertEqual(arranged_mean(Sum([("", -2), ("a", 1)]), ""), (-2, 1))
        self.assertEqual(arranged_mean(Sum([("aab", 1)]), "ab"), (0, 1))
        self.assertEqual(arranged_mean(Sum([("ba", 1)]), "a" * 150 + "b" * 150), (11250, 1))
        self.assertEqual(unfair(Sum([])), None)
        self.assertEqual(unfair(Sum([("", 1)])), "")
        self.assertEqual(unfair(Sum([("zyx", 1), ("xyz", 1), ("bbaa", 5)])), "xyz")
        self.assertEqual(unfair(Sum([("ba", 1), ("ca", 1), ("ab", -1)])), "ac")

    def test_at_the_limits(self):
        chance = support.chance(8803)
        total = support.some_sum(chance, "abcd", 40, 12, FAR)
        self.in_seconds(mean, "abcd", total, FAR)
        self.in_seconds(means_part, "abcd", total, times(2, total))
        self.in_seconds(arranged_mean, total, "abcd" * 75)
        self.in_seconds(unfair, total)


class BelowZero(support.TestCase):
    def test_runs_have_the_least_worths(self):
        chance = support.chance(8901)
        for _ in range(60):
            numbers = [chance.randint(-4, 4) for _ in range(7)]
            total = quadratic(numbers)
            for first, second in [(0, 0), (2, 0), (1, 1), (2, 2), (3, 2), (1, 4)]:
                texts = arrangements("a" * first + "b" * second)
                runs = {"a" * first + "b" * second, "b" * second + "a" * first}
                least = min(support.plain_worth(total, text) for text in texts)
                self.assertEqual(least, min(support.plain_worth(total, text) for text in runs))
                self.assertEqual({run_worth(numbers, text) for text in runs},
                                 {support.plain_worth(total, text) for text in runs})

    def test_against_listing(self):
        chance = support.chance(8902)
        kinds = []
        for number in range(600):
            most = chance.choice([1, 2, 5, 20])
            numbers = [chance.randint(-most, most) for _ in range(7)]
            if number % 2:
                numbers = [abs(own) if at in (0, 3, 6) else own for at, own in enumerate(numbers)]
            found = below_zero("ab", quadratic(numbers))
            kinds.append(None if found is None else len(found))
            if found is None or len(found) > 30:
                self.assertIsNone(plain_below(numbers, 30))
                self.assertEqual(found is None, is_never_below(numbers), numbers)
            else:
                self.assertEqual(found, plain_below(numbers, 30))
        self.assertGreater(kinds.count(None), 50)
        self.assertGreater(len(set(kinds)), 8)

    def test_far_away(self):
        """Sums whose first text below 0 has many letters, or just none."""
        chance = support.chance(8903)
        far = []
        for _ in range(60):
            aa, bb = chance.randint(0, 20), chance.randint(0, 20)
            ab = -math.isqrt(aa * bb) - chance.choice([0, 0, 1])
            if ab < -20:
                continue
            numbers = [20, chance.randint(-3, 20), chance.randint(-3, 20), aa, ab, chance.randint(ab, 20), bb]
            found = self.in_seconds(below_zero, "ab", quadratic(numbers))
            self.assertEqual(found is None, is_never_below(numbers), numbers)
            if found is not None:
                self.check_first(numbers, found)
                far.append(len(found))
        self.assertGreater(max(far), 60)

    def check_first(self, numbers, found):
        self.assertLess(run_worth(numbers, found), 0)
        self.assertTrue(found in two_runs(len(found)) if len(found) < 100 else True)
        if len(found) < 400:
            own = two_runs(len(found))
            self.assertFalse(any(run_worth(numbers, text) < 0 for text in own[:own.index(found)]))
            self.assertFalse(any(run_worth(numbers, text) < 0 for text in two_runs(len(found) - 1)))

    def test_edges(self):
        self.assertIsNone(below_zero("ab", Sum([])))
        self.assertEqual(below_zero("ab", Sum([("", -1)])), "")
        self.assertEqual(below_zero("ab", Sum([("", 20), ("a", -1)])), "a" * 21)
        self.assertEqual(below_zero("ab", Sum([("", 20), ("b", -1)])), "b" * 21)
        self.assertEqual(below_zero("xy", Sum([("yx", -1)])), "yx")
        self.assertEqual(below_zero("xy", Sum([("yx", -1), ("xy", -1)])), "xy")
        self.assertEqual(below_zero("az", Sum([("z", -1), ("a", -1)])), "a")
        self.assertIsNone(below_zero("ab", Sum([("aa", 20), ("bb", 20), ("ab", -20), ("ba", -20), ("a", 10), ("b", 10)])))
        # Squares that add nothing along a line, and worths that fall by a half at each step of it.
        numbers = [20, 9, 10, 19, -19, 20, 19]
        self.assertEqual(is_never_below(numbers), below_zero("ab", quadratic(numbers)) is None)

    def test_more_than_300_letters(self):
        numbers = [20, 20, 20, 18, -19, -19, 20]
        found = self.in_seconds(below_zero, "ab", quadratic(numbers))
        self.assertGreater(len(found), 300)
        self.assertLess(run_worth(numbers, found), 0)
        near = len(found) - 1
        self.assertTrue(all(run_worth(numbers, "a" * first + "b" * (near - first)) >= 0 for first in range(near + 1)))
        one_more = found.count("a") + 1
        text = "a" * one_more + "b" * (len(found) - one_more)
        self.assertGreaterEqual(run_worth(numbers, text), 0)

    def test_at_the_limits(self):
        for numbers in [[20, -20, -20, 19, -19, -19, 20], [20, 20, 20, 20, -20, -20, 20], [20, 20, 20, 0, -1, 20, 20],
                        [20, 20, 20, 20, -20, 20, 19], [0, 0, 0, 20, -19, -19, 20], [20, -20, 20, 1, -1, -1, 1],
                        [20, 20, 20, 0, 0, -1, 20], [20, 20, 20, 20, -1, 20, 0], [20, 20, -20, 20, 20, 20, 1]]:
            found = self.in_seconds(below_zero, "ab", quadratic(numbers))
            self.assertEqual(found is None, is_never_below(numbers), numbers)


class Wrong(support.TestCase):
    def test_order(self):
        one = Sum([("a", 1)])
        for wrong in [None, 1, "ba", "", "abcde", ["a"]]:
            for call in [mean, means_part]:
                self.refuses(InvalidLetters, wrong, call, wrong, None, None)
        for wrong in [None, 1, "ba", "", "a", "abc", "abcd", "aa", ["a", "b"]]:
            self.refuses(InvalidLetters, wrong, below_zero, wrong, None)
        for wrong in [None, 1, "a", [("a", 1)], (one,)]:
            self.refuses(InvalidSum, wrong, mean, "ab", wrong, None)
            self.refuses(InvalidSum, wrong, means_part, "ab", wrong, None)
            self.refuses(InvalidSum, wrong, means_part, "ab", one, wrong)
            self.refuses(InvalidSum, wrong, arranged_mean, wrong, None)
            self.refuses(InvalidSum, wrong, unfair, wrong)
            self.refuses(InvalidSum, wrong, below_zero, "ab", wrong)
        for wrong in [Sum([("aab", 1)]), Sum([("c", 1)]), Sum([("ac", 1), ("a", 1)])]:
            self.refuses(InvalidSum, wrong, below_zero, "ab", wrong)
        for wrong in [None, True, -1, "1", [1]]:
            self.refuses(InvalidNumber, wrong, mean, "ab", one, wrong)
        for wrong in [None, 1, "A", ["a"]]:
            self.refuses(InvalidText, wrong, arranged_mean, one, wrong)
