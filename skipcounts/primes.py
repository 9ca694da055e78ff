"""Prime words: each word is made of them in one way, and their counts tell all others."""

from math import gcd, lcm

from skipcounts.errors import InvalidList, InvalidNumber, InvalidWord, TooLong, TooMany
from skipcounts.levels import levels_of_numbers, levels_of_row, number_levels, row_of_levels, worth_levels
from skipcounts.mixtures import mixture
from skipcounts.sums import Sum, letters_of, need_sum, numbers_of
from skipcounts.texts import in_order, is_text, letters_in, need_letters, need_text, stands_over
from skipcounts.texts import words_of_size, words_up_to
from skipcounts.wholes import how_many_words, is_from_to, is_whole, is_whole_list

MOST_IN_WORD = 12
MOST_WORDS = 9000
MOST_WORDS_OF_FORM = 1000
MOST_TOLD = 100


def prime_parts(text):
    """Return the prime words that are a text, joined, none of them ahead of the one behind it."""
    need_text(text)
    parts = []
    start = 0
    while start < len(text):
        # What stands from start to end is a prime word, taken again and again, and a beginning of it.
        match = start
        end = start + 1
        while end < len(text) and text[match] <= text[end]:
            match = match + 1 if text[match] == text[end] else start
            end = end + 1
        while start <= match:
            parts.append(text[start:start + end - match])
            start = start + end - match
    return parts


def prime_words(letters, size):
    """Return all prime words over an alphabet of at most so many letters, in the order of texts."""
    need_letters(letters)
    if not is_from_to(size, 0, MOST_IN_WORD):
        raise InvalidNumber(size)
    many = how_many_words(len(letters), size)
    if many > MOST_WORDS:
        raise TooMany(many)
    return [word for word in words_up_to(letters, size) if is_prime(word)]


def prime_form(total):
    """Return the fractions of products of counts of prime words that a sum is made of."""
    need_sum(total)
    letters, depth = letters_of(total), total.degree()
    _need_few_words(letters, depth)
    numbers = numbers_of(total)
    words = words_up_to(letters, depth)
    rest = [numbers.get(word, 0) for word in words]
    below = 1
    known = {}
    found = []
    for at in reversed(range(len(words))):
        if rest[at] != 0:
            row = _product_row(words[at], letters, depth, known)
            # All numbers of rest are taken over the same denominator, which is raised where it has to be.
            raise_by = row[at] // gcd(row[at], rest[at])
            below = below * raise_by
            share = rest[at] * raise_by // row[at]
            rest = [raise_by * number - share * own for number, own in zip(rest, row)]
            low = gcd(share, below)
            found.append((words[at], share // low, below // low))
    return found[::-1]


def from_prime_form(form):
    """Return the sum that has a prime form, None if there is none with whole numbers."""
    if not _is_form(form):
        raise InvalidList(form)
    form_words = [word for word, _, _ in form]
    letters, depth = letters_in(form_words), max([len(word) for word in form_words], default=-1)
    _need_few_words(letters, depth)
    words = words_up_to(letters, depth)
    places = {word: at for at, word in enumerate(words)}
    numbers = [0] * len(words)
    below = 1
    known = {}
    for word, above, own_below in reversed(form):
        row = _product_row(word, letters, depth, known)
        if below * row[places[word]] % own_below != 0:
            # No product that is still to come has this word, so its number could not be whole.
            return None
        joint = lcm(below, own_below)
        share = above * (joint // own_below)
        numbers = [number * (joint // below) + share * own for number, own in zip(numbers, row)]
        below = joint
    if any([number % below != 0 for number in numbers]):
        return None
    return Sum([(word, number // below) for word, number in zip(words, numbers)])


def told_count(letters, numbers, word):
    """Return the count that a word has if the first prime words over an alphabet have some counts."""
    need_letters(letters)
    if not is_whole_list(numbers) or len(numbers) > MOST_TOLD:
        raise InvalidList(numbers)
    if not stands_over(letters, word):
        raise InvalidWord(word)
    primes = _first_primes(letters, len(word), len(numbers))
    if len(primes) > len(numbers):
        raise TooLong(len(word))
    told = {prime: number for prime, number in zip(primes, numbers)}
    return numbers_by_primes(letters, len(word), told)[word]


def is_prime(word):
    """Return whether a word is not empty and ahead, in Python's order, of each shorter end of it."""
    return word != "" and all([word < word[cut:] for cut in range(1, len(word))])


def numbers_by_primes(letters, depth, told):
    """Return the dict of all words up to a depth with their numbers, from those of the prime words among them.

    The numbers of two words, multiplied, are those of the words in the product of their counts, added up.
    """
    found = {"": 1}
    for word in words_up_to(letters, depth)[1:]:
        first = prime_parts(word)[0]
        if first == word:
            found[word] = told[word]
        else:
            # The word itself is the last one, of as many letters, in the product of its first part and the rest.
            made = mixture(first, word[len(first):])
            others = sum([number * found[other] for other, number in made.items() if other != word])
            found[word] = (found[first] * found[word[len(first):]] - others) // made[word]
    return found


def _first_primes(letters, size, most):
    """Return the prime words of at most so many letters, in order, or more than most of them if there are more."""
    found = []
    for length in range(1, size + 1):
        if len(found) <= most and (length == 1 or len(letters) > 1):
            found.extend([word for word in words_of_size(letters, length) if is_prime(word)])
    return found


def _product_row(word, letters, depth, known):
    """Return the numbers, in the order of texts, of the product of the counts of the prime parts of a word.

    The dict of the worths of prime words that are known already is filled up.
    """
    worths = [1] * how_many_words(len(letters), depth)
    for part in prime_parts(word):
        if part not in known:
            levels = levels_of_numbers({part: 1}, letters, depth)
            known[part] = row_of_levels(worth_levels(levels, len(letters)))
        worths = [worth * own for worth, own in zip(worths, known[part])]
    return row_of_levels(number_levels(levels_of_row(worths, len(letters), depth), len(letters)))


def _need_few_words(letters, depth):
    """Refuse letters over which there are too many words up to a depth."""
    many = how_many_words(len(letters), depth)
    if many > MOST_WORDS_OF_FORM:
        raise TooMany(many)


def _is_form(value):
    """Return whether a value is a list of words, in the order of texts, with fractions in lowest terms."""
    if not isinstance(value, list):
        return False
    for item in value:
        if not isinstance(item, tuple) or len(item) != 3 or not is_text(item[0]):
            return False
        if not is_whole(item[1]) or not is_whole(item[2]) or item[1] == 0 or item[2] < 1:
            return False
        if gcd(item[1], item[2]) != 1:
            return False
    words = [word for word, _, _ in value]
    return words == in_order(sorted(set(words)))
