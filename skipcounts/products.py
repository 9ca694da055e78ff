"""Products of sums, and sums of which some are chosen; quotients."""

from skipcounts.errors import InvalidNumber, InvalidSum, TooLong, TooMany
from skipcounts.levels import levels_of_numbers, number_levels, numbers_of_levels, worth_levels
from skipcounts.mixtures import mixture
from skipcounts.primes import prime_parts
from skipcounts.sums import letters_of, need_sum, numbers_of, sum_of_numbers
from skipcounts.wholes import choose, how_many_words, is_from_to

MOST_IN_WORD = 12
MOST_WORDS = 5000


def product(one, other):
    """Return the sum whose worth at each text is the product of the worths of two sums."""
    need_sum(one)
    need_sum(other)
    if not one.terms() or not other.terms():
        return sum_of_numbers({})
    degree = one.degree() + other.degree()
    if degree > MOST_IN_WORD:
        raise TooLong(degree)
    numbers = {}
    for word, number in one.terms():
        _add_product(numbers, word, number, other)
    return sum_of_numbers(numbers)


def chosen(total, many):
    """Return the sum whose worth tells in how many ways so many of the worth of a sum can be chosen."""
    need_sum(total)
    if not is_from_to(many, 0, MOST_IN_WORD):
        raise InvalidNumber(many)
    degree = total.degree() * many
    if degree > MOST_IN_WORD:
        raise TooLong(degree)
    letters = letters_of(total)
    how_many = how_many_words(len(letters), degree)
    if how_many > MOST_WORDS:
        raise TooMany(how_many)
    # The worths at all texts up to the degree tell the sum.
    worths = worth_levels(levels_of_numbers(numbers_of(total), letters, max(degree, 0)), len(letters))
    ways = [[choose(worth, many) for worth in level] for level in worths]
    return sum_of_numbers(numbers_of_levels(number_levels(ways, len(letters)), letters))


def quotient(one, other):
    """Return the sum whose product with the other one is the first one, None if there is none."""
    need_sum(one)
    need_sum(other)
    if not other.terms():
        raise InvalidSum(other)
    top_parts = prime_parts(_top(numbers_of(other)))
    rest = numbers_of(one)
    found = {}
    while rest:
        top = _top(rest)
        word = _without_parts(prime_parts(top), top_parts)
        if word is None:
            return None
        made = {}
        _add_product(made, word, 1, other)
        if rest[top] % made[top] != 0:
            return None
        found[word] = rest[top] // made[top]
        for each, number in made.items():
            rest[each] = rest.get(each, 0) - found[word] * number
        rest = {each: number for each, number in rest.items() if number != 0}
    return sum_of_numbers(found)


def _add_product(numbers, word, number, total):
    """Add, to a dict of numbers, those of the product of a word, taken so many times, and a sum."""
    for other, own in total.terms():
        for made, ways in mixture(word, other).items():
            numbers[made] = numbers.get(made, 0) + number * own * ways


def _top(numbers):
    """Return, of the longest words of a dict, the last one in order."""
    _, word = max([(len(each), each) for each in numbers])
    return word


def _without_parts(parts, taken):
    """Return the word of what is left of the prime parts of a word without others, None if these are not there.

    The last word that is made of the letters of two words, each one's in order, has the prime parts of both.
    """
    left = list(parts)
    for part in taken:
        if part not in left:
            return None
        left.remove(part)
    return "".join(left)
