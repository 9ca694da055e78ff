"""Differences of sums at the front and at the end, sums told by them, and sums moved by a text."""

from skipcounts.errors import InvalidList, InvalidNumber, TooLong
from skipcounts.sums import Sum, need_sum, sum_of_numbers
from skipcounts.texts import is_letter, need_text, need_word
from skipcounts.trees import beginning_counts
from skipcounts.wholes import is_whole

MOST_IN_WORD = 12


def front_part(total, word):
    """Return the sum in which each word has the number that a sum has at the given word and it, joined."""
    need_sum(total)
    need_word(word)
    return Sum([(own[len(word):], number) for own, number in total.terms() if own.startswith(word)])


def back_part(total, word):
    """Return the sum in which each word has the number that a sum has at it and the given word, joined."""
    need_sum(total)
    need_word(word)
    return Sum([(own[:len(own) - len(word)], number) for own, number in total.terms() if own.endswith(word)])


def summed(number, given):
    """Return the sum with a worth at the empty text and a given front part for each of some letters."""
    if not is_whole(number):
        raise InvalidNumber(number)
    if not _are_given(given):
        raise InvalidList(given)
    degree = 1 + max([part.degree() for _, part in given], default=-1)
    if degree > MOST_IN_WORD:
        raise TooLong(degree)
    terms = [("", number)]
    for letter, part in given:
        terms.extend([(letter + word, own) for word, own in part.terms()])
    return Sum(terms)


def moved(total, text):
    """Return the sum whose worth at each text is that of a sum at the given text and it, joined."""
    need_sum(total)
    need_text(text)
    return _shifted(total, text)


def unmoved(total, text):
    """Return the only sum from which moved, with the same text, makes a sum."""
    need_sum(total)
    need_text(text)
    # The opposite of the text takes away what the text has brought at the front.
    return _shifted(total, text[::-1].upper())


def _shifted(total, signs):
    """Add up the front parts of a sum, each taken as often as the table of a signed text says for its word."""
    terms = total.terms()
    found = beginning_counts([word for word, _ in terms], signs)
    numbers = {}
    for word, number in terms:
        for cut in range(len(word) + 1):
            numbers[word[cut:]] = numbers.get(word[cut:], 0) + number * found[word[:cut]]
    return sum_of_numbers(numbers)


def _are_given(value):
    """Return whether a value is a list of tuples of a letter and a sum, the letters in order, none twice."""
    if not isinstance(value, list):
        return False
    last = ""
    for item in value:
        if not isinstance(item, tuple) or len(item) != 2:
            return False
        if not is_letter(item[0]) or item[0] <= last or not isinstance(item[1], Sum):
            return False
        last = item[0]
    return True
