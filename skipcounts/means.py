"""Means of worths, and what holds for all texts."""

from math import gcd

from skipcounts.errors import InvalidLetters, InvalidNumber, InvalidSum
from skipcounts.sums import Sum, need_sum, numbers_of
from skipcounts.texts import is_alphabet, need_letters, need_text, stands_over
from skipcounts.wholes import choose, is_count, raised

MOST_DEGREE = 2


def mean(letters, total, size):
    """Return the mean worth of a sum over all texts over an alphabet with so many letters."""
    need_letters(letters)
    need_sum(total)
    if not is_count(size):
        raise InvalidNumber(size)
    return _mean(letters, total, size)


def means_part(letters, one, other):
    """Return the least number of letters for which two sums have unlike means, None if there is none."""
    need_letters(letters)
    need_sum(one)
    need_sum(other)
    for size in range(max(one.degree(), other.degree()) + 1):
        if _mean(letters, one, size) != _mean(letters, other, size):
            return size
    return None


def arranged_mean(total, text):
    """Return the mean worth of a sum over all texts with as many of each letter as a text."""
    need_sum(total)
    need_text(text)
    over, by = 0, 1
    for word, number in total.terms():
        # At some places stand the letters of the word, in its order, in so many of all ways to put letters there.
        ways, of_all = number, 1
        for at, sign in enumerate(word):
            ways = ways * (text.count(sign) - word[:at].count(sign))
            of_all = of_all * (at + 1)
        over, by = over * of_all + ways * by, by * of_all
    return _lowest(over, by)


def unfair(total):
    """Return the first text for which the mean over all its arrangements is not 0, None if there is none."""
    need_sum(total)
    numbers = {}
    for word, number in total.terms():
        own = "".join(sorted(word))
        numbers[own] = numbers.get(own, 0) + number
    # In a shortest text with another mean than 0 no shorter words count.
    kept = [(len(word), word) for word, number in numbers.items() if number != 0]
    return min(kept)[1] if kept else None


def below_zero(letters, total):
    """Return the first text of two runs at which the worth of a sum is below 0, None if it is so at no text at all."""
    if not is_alphabet(letters) or len(letters) != 2:
        raise InvalidLetters(letters)
    if not isinstance(total, Sum) or total.degree() > MOST_DEGREE:
        raise InvalidSum(total)
    if not all([stands_over(letters, word) for word, _ in total.terms()]):
        raise InvalidSum(total)
    own = numbers_of(total)
    one, other = letters
    ahead = [own.get(word, 0) for word in ["", one, other, one + one, other + other, one + other]]
    behind = ahead[:5] + [own.get(other + one, 0)]
    least = min(ahead, behind)
    for size in range(_far_enough(ahead + behind) + 1):
        if _least_worth(least, size) < 0:
            return _first_below(letters, ahead, behind, size)
    return None


def _mean(letters, total, size):
    """Return what mean returns, for arguments that are known to be right."""
    over, by = 0, 1
    for word, number in total.terms():
        if stands_over(letters, word):
            of_all = raised(len(letters), len(word))
            over, by = over * of_all + number * choose(size, len(word)) * by, by * of_all
    return _lowest(over, by)


def _lowest(over, by):
    """Return a fraction in lowest terms; by is above 0."""
    divisor = gcd(over, by)
    return over // divisor, by // divisor


def _worth(numbers, first, second):
    """Return the worth at so many of one letter and then so many of the other one.

    The numbers are those of the empty word, of both letters, of two equal ones, and of both one behind the other.
    """
    return (numbers[0] + numbers[1] * first + numbers[2] * second + numbers[3] * choose(first, 2)
            + numbers[4] * choose(second, 2) + numbers[5] * first * second)


def _least_worth(numbers, size):
    """Return the least worth at so many letters."""
    # With one more of the first letter the worth rises by what rises by bend, so it bends at one number of them.
    bend = numbers[3] + numbers[4] - 2 * numbers[5]
    turns = [0, size]
    if bend > 0:
        rise = numbers[1] - numbers[2] + (numbers[5] - numbers[4]) * (size - 1)
        turns.append(max(0, min(size, -(rise // bend))))
    return min([_worth(numbers, first, size - first) for first in turns])


def _first_below(letters, ahead, behind, size):
    """Return the first text of two runs with so many letters where the worth is below 0; there is one."""
    for first in reversed(range(1, size + 1)):
        if _worth(ahead, first, size - first) < 0:
            return letters[0] * first + letters[1] * (size - first)
    for second in range(size + 1):
        if _worth(behind, size - second, second) < 0:
            return letters[1] * second + letters[0] * (size - second)
    return None


def _far_enough(numbers):
    """Return so many letters that, if any worth is below 0, one at a text of two runs with no more of them is."""
    # Let m be the greatest of the numbers. Where squares make some worth less than 0, or keep all worths up, less than
    # 20 * m * m + 20 * m + 20 letters tell; if one letter has no square, its number of letters may be up to m * m * m.
    # Where squares add nothing along a line of texts, the worths go along it by a fixed number, and if this is not
    # below 0, the least ones have less than m of one of the letters.
    most = max([abs(number) for number in numbers]) + 1
    return most * most * most + 20 * most * most + 20 * most + 20
