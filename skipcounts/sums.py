"""Sums of counts of words."""

from math import gcd

from skipcounts.errors import InvalidList, InvalidNumber, InvalidSum, TooMany
from skipcounts.levels import levels_of_numbers, levels_of_row, number_levels, numbers_of_levels
from skipcounts.levels import row_of_levels, worth_levels
from skipcounts.texts import in_order, is_text, letters_in, need_letters, need_text, stands_over
from skipcounts.trees import beginning_counts
from skipcounts.wholes import how_many_words, is_from_to, is_whole, is_whole_list

MOST_DEPTH = 12
MOST_TEXTS = 2000


class Sum:
    """A finite sum of counts of words, each taken a whole number of times."""

    def __init__(self, terms):
        if not _are_terms(terms):
            raise InvalidList(terms)
        numbers = {}
        for word, number in terms:
            numbers[word] = numbers.get(word, 0) + number
        self._terms = [(word, numbers[word]) for word in in_order(list(numbers)) if numbers[word] != 0]

    def terms(self):
        """Return the words with their numbers, where these are not 0, in the order of texts."""
        return list(self._terms)

    def degree(self):
        """Return the greatest length of the words, -1 if there are none."""
        if not self._terms:
            return -1
        return len(self._terms[-1][0])

    def worth(self, text):
        """Return the sum of all numbers, each times the count of its word in a text."""
        need_text(text)
        found = beginning_counts([word for word, _ in self._terms], text)
        return sum([number * found[word] for word, number in self._terms])

    def __eq__(self, other):
        return isinstance(other, Sum) and self._terms == other._terms


def plus(one, other):
    """Return the sum whose worths are those of two sums, added."""
    need_sum(one)
    need_sum(other)
    return Sum(one.terms() + other.terms())


def times(number, total):
    """Return the sum whose worths are those of a sum, taken a whole number of times."""
    if not is_whole(number):
        raise InvalidNumber(number)
    need_sum(total)
    return Sum([(word, number * own) for word, own in total.terms()])


def within(total, letters):
    """Return the sum with just those terms of a sum whose words have no letter outside an alphabet."""
    need_sum(total)
    need_letters(letters)
    return Sum([(word, number) for word, number in total.terms() if stands_over(letters, word)])


def parting(one, other):
    """Return the first text at which two sums have different worths, None if there is none."""
    need_sum(one)
    need_sum(other)
    terms = _difference(one, other).terms()
    if not terms:
        return None
    return terms[0][0]


def parting_by(one, other, by):
    """Return the first text at which the difference of both worths is not divisible by a number, None if none."""
    need_sum(one)
    need_sum(other)
    if not is_whole(by) or by < 1:
        raise InvalidNumber(by)
    for word, number in _difference(one, other).terms():
        if number % by != 0:
            return word
    return None


def divisor(total):
    """Return the greatest whole number that divides the worths at all texts, 0 if all are 0."""
    need_sum(total)
    found = 0
    for _, number in total.terms():
        found = gcd(found, number)
    return found


def worths(letters, depth, total):
    """Return the worths of a sum at all texts over an alphabet of at most depth letters, in the order of texts."""
    _need_texts(letters, depth)
    need_sum(total)
    levels = levels_of_numbers(numbers_of(total), letters, depth)
    return row_of_levels(worth_levels(levels, len(letters)))


def from_worths(letters, depth, numbers):
    """Return the only sum of a degree of at most depth, over an alphabet, that has these worths at its texts."""
    _need_texts(letters, depth)
    if not is_whole_list(numbers) or len(numbers) != how_many_words(len(letters), depth):
        raise InvalidList(numbers)
    levels = levels_of_row(numbers, len(letters), depth)
    return sum_of_numbers(numbers_of_levels(number_levels(levels, len(letters)), letters))


def need_sum(total):
    """Refuse what is no sum."""
    if not isinstance(total, Sum):
        raise InvalidSum(total)


def numbers_of(total):
    """Return the dict of the words of a sum with their numbers."""
    return {word: number for word, number in total.terms()}


def sum_of_numbers(numbers):
    """Return the sum that has the numbers of a dict at its words."""
    return Sum([(word, number) for word, number in numbers.items()])


def letters_of(total):
    """Return the letters of the words of a sum, in order, as a string; there may be up to 26 of them."""
    return letters_in([word for word, _ in total.terms()])


def _are_terms(value):
    """Return whether a value is a list of tuples of a word and a whole number."""
    if not isinstance(value, list):
        return False
    for item in value:
        if not isinstance(item, tuple) or len(item) != 2 or not is_text(item[0]) or not is_whole(item[1]):
            return False
    return True


def _difference(one, other):
    """Return the sum whose worths are those of one sum less those of the other one."""
    return Sum(one.terms() + [(word, -number) for word, number in other.terms()])


def _need_texts(letters, depth):
    """Refuse what is no alphabet, and a depth that is none or to which there are too many texts."""
    need_letters(letters)
    if not is_from_to(depth, 0, MOST_DEPTH):
        raise InvalidNumber(depth)
    many = how_many_words(len(letters), depth)
    if many > MOST_TEXTS:
        raise TooMany(many)
