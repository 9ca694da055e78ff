"""Tables: a whole number for each word up to a depth, joined as texts are."""

from math import gcd, lcm

from skipcounts.errors import InvalidList, InvalidNumber, InvalidTable, InvalidText, InvalidWord, TooMany, Unlike
from skipcounts.levels import levels_of_row, levels_of_signs, row_of_levels
from skipcounts.series import joined_levels, levels_divided, made_of_powers, rest_powers
from skipcounts.texts import need_letters, number_of_text, stands_over, words_up_to
from skipcounts.wholes import choose, how_many_words, is_from_to, is_whole, is_whole_list, raised

MOST_DEPTH = 12
MOST_WORDS = 400
MOST_SIGNS = 300
MOST_BY = 1000


class Table:
    """A whole number for each word over an alphabet up to a depth, 1 for the empty word."""

    def __init__(self, letters, depth, numbers):
        need_letters(letters)
        need_depth(letters, depth)
        if not is_whole_list(numbers) or len(numbers) != how_many_words(len(letters), depth) or numbers[0] != 1:
            raise InvalidList(numbers)
        self._letters = letters
        self._depth = depth
        self._numbers = list(numbers)

    def letters(self):
        """Return the alphabet."""
        return self._letters

    def depth(self):
        """Return the greatest number of letters of the words."""
        return self._depth

    def numbers(self):
        """Return the numbers, in the order of texts of their words."""
        return list(self._numbers)

    def number(self, word):
        """Return the number at a word over the alphabet, of at most depth letters."""
        if not stands_over(self._letters, word) or len(word) > self._depth:
            raise InvalidWord(word)
        return self._numbers[number_of_text(self._letters, word)]

    def __eq__(self, other):
        return (isinstance(other, Table) and self._letters == other._letters and self._depth == other._depth
                and self._numbers == other._numbers)


def table_of(letters, depth, signed):
    """Return the table of a signed text."""
    need_letters(letters)
    need_depth(letters, depth)
    need_signed(letters, signed)
    return Table(letters, depth, row_of_levels(levels_of_signs(letters, depth, signed)))


def joined(one, other):
    """Return the table of what two tables stand for, one behind the other."""
    need_table(one)
    need_table(other)
    need_alike(one, other)
    return _with_levels(one, joined_levels(levels_of_table(one), levels_of_table(other)))


def undone(table):
    """Return the table that, joined with a table on either side, gives the table of the empty text."""
    need_table(table)
    return _power(table, -1)


def power(table, many):
    """Return so many copies of a table joined; below 0, as many of the undone one."""
    need_table(table)
    if not is_whole(many):
        raise InvalidNumber(many)
    return _power(table, many)


def first_difference(one, other):
    """Return the first word at which two tables have unlike numbers, None if they are equal."""
    need_table(one)
    need_table(other)
    need_alike(one, other)
    words = words_up_to(one.letters(), one.depth())
    for word, number, own in zip(words, one.numbers(), other.numbers()):
        if number != own:
            return word
    return None


def root(table, many):
    """Return the table whose power with a number is a table, None if there is none."""
    need_table(table)
    if not is_whole(many) or many < 1:
        raise InvalidNumber(many)
    return _root(table, many)


def greatest_root(table):
    """Return the root of a table with the greatest number, and this number; the table and 0 for the empty text."""
    need_table(table)
    left = _root_bound(table)
    if left == 0:
        return table, 0
    many = 1
    # What is left behind these primes is right as it is: the bound has greater ones just as often as the number.
    for prime in _primes_of(_lcm_up_to(table.depth())):
        times = 0
        while left % prime == 0:
            left = left // prime
            times = times + 1
        while _root(table, raised(prime, times)) is None:
            times = times - 1
        many = many * raised(prime, times)
    return _root(table, many * left), many * left


def table_round(table, by):
    """Return the least power of a table, above 0, whose numbers but the first are all divisible by a number."""
    need_table(table)
    if not is_from_to(by, 2, MOST_BY):
        raise InvalidNumber(by)
    found = 1
    for prime in _primes_of(by):
        rest_by = 1
        while by % (rest_by * prime) == 0:
            rest_by = rest_by * prime
        found = found * _round_by(table, prime, rest_by)
    return found


def need_depth(letters, depth):
    """Refuse what is no depth, and one to which there are too many words over an alphabet."""
    if not is_from_to(depth, 0, MOST_DEPTH):
        raise InvalidNumber(depth)
    many = how_many_words(len(letters), depth)
    if many > MOST_WORDS:
        raise TooMany(many)


def need_signed(letters, signed):
    """Refuse what is no signed text over an alphabet."""
    if not isinstance(signed, str) or len(signed) > MOST_SIGNS:
        raise InvalidText(signed)
    signs = letters + letters.upper()
    if not all([sign in signs for sign in signed]):
        raise InvalidText(signed)


def need_table(table):
    """Refuse what is no table."""
    if not isinstance(table, Table):
        raise InvalidTable(table)


def need_alike(one, other):
    """Refuse a second table that has not the letters and the depth of the first one."""
    if one.letters() != other.letters() or one.depth() != other.depth():
        raise Unlike(other)


def levels_of_table(table):
    """Return the numbers of a table as levels."""
    return levels_of_row(table.numbers(), len(table.letters()), table.depth())


def opposite(signed):
    """Return the opposite of a signed text."""
    return signed[::-1].swapcase()


def _with_levels(table, levels):
    """Return the table with the letters and the depth of another one that has these levels."""
    return Table(table.letters(), table.depth(), row_of_levels(levels))


def _power(table, many):
    """Return what power returns, for arguments that are known to be right."""
    shares = [choose(many, size) for size in range(table.depth() + 1)]
    return _with_levels(table, made_of_powers(rest_powers(levels_of_table(table)), shares))


def _root(table, many):
    """Return what root returns, for arguments that are known to be right."""
    # The power of 1 + N with 1 / many is the sum of the powers of N, each with a binomial of 1 / many, that is a
    # product of numbers 1 - i * many, divided by a power of many and by a factorial. Here all are taken over the
    # greatest of these denominators.
    depth = table.depth()
    shares = []
    for size in range(depth + 1):
        share = raised(many, depth - size)
        for at in range(size):
            share = share * (1 - at * many)
        for at in range(size + 1, depth + 1):
            share = share * at
        shares.append(share)
    by = raised(many, depth)
    for at in range(1, depth + 1):
        by = by * at
    levels = levels_divided(made_of_powers(rest_powers(levels_of_table(table)), shares), by)
    if levels is None:
        return None
    return _with_levels(table, levels)


def _root_bound(table):
    """Return a number that each number with a root of the table divides, 0 for the table of the empty text.

    Primes above the depth divide it just as often as the greatest number with a root.
    """
    # A power of 1 + N takes the powers of N as often as binomials say; each of them, times a number that all numbers
    # up to the depth divide, is divisible by the exponent.
    found = 0
    for number in table.numbers()[1:]:
        found = gcd(found, number)
    return found * _lcm_up_to(table.depth())


def _lcm_up_to(most):
    """Return the least common multiple of the whole numbers from 1 on."""
    found = 1
    for number in range(1, most + 1):
        found = lcm(found, number)
    return found


def _primes_of(number):
    """Return the primes that divide a number, in order."""
    found = []
    left = number
    prime = 2
    while left > 1:
        if left % prime == 0:
            found.append(prime)
            while left % prime == 0:
                left = left // prime
        prime = prime + 1
    return found


def _round_by(table, prime, by):
    """Return what table_round returns, where by is a power of a prime: it is a power of this prime, too."""
    shares = [choose(prime, size) for size in range(table.depth() + 1)]
    levels = [[number % by for number in level] for level in levels_of_table(table)]
    found = 1
    while any([number != 0 for number in row_of_levels(levels[1:])]):
        levels = [[number % by for number in level] for level in made_of_powers(rest_powers(levels), shares)]
        found = found * prime
    return found
