"""Legal tables: those of signed texts; their numbers at prime words, and their commutators."""

from skipcounts.errors import InvalidList, InvalidTable, InvalidWord
from skipcounts.mixtures import mixture
from skipcounts.primes import is_prime, numbers_by_primes, prime_words
from skipcounts.tables import Table, first_difference, joined, need_depth, need_table, opposite, power, table_of
from skipcounts.texts import is_text, need_letters, words_up_to
from skipcounts.wholes import is_whole_list

MOST_IN_COMMUTATOR = 6


def is_legal(table):
    """Return whether a table is that of a signed text, if such a text had no bound for its length."""
    need_table(table)
    words = words_up_to(table.letters(), table.depth())
    numbers = {word: number for word, number in zip(words, table.numbers())}
    for at, one in enumerate(words):
        for other in words[1:at + 1]:
            if len(one) + len(other) > table.depth():
                break
            made = mixture(one, other)
            if numbers[one] * numbers[other] != sum([ways * numbers[word] for word, ways in made.items()]):
                return False
    return True


def from_primes(letters, depth, numbers):
    """Return the only legal table that has some numbers at the prime words over an alphabet up to a depth."""
    need_letters(letters)
    need_depth(letters, depth)
    primes = prime_words(letters, depth)
    if not is_whole_list(numbers) or len(numbers) != len(primes):
        raise InvalidList(numbers)
    found = numbers_by_primes(letters, depth, {prime: number for prime, number in zip(primes, numbers)})
    return Table(letters, depth, [found[word] for word in words_up_to(letters, depth)])


def at_primes(table):
    """Return the numbers of a table at the prime words."""
    need_table(table)
    return [table.number(word) for word in prime_words(table.letters(), table.depth())]


def commutator(word):
    """Return a signed text for a prime word: its letter, or m, n and their opposites, for two parts of the word."""
    if not is_text(word) or len(word) > MOST_IN_COMMUTATOR or not is_prime(word):
        raise InvalidWord(word)
    return _commutator(word)


def commutator_form(table):
    """Return the powers of the tables of commutators, in the order of texts, that make a table if it is legal."""
    if not isinstance(table, Table) or table.depth() > MOST_IN_COMMUTATOR:
        raise InvalidTable(table)
    letters, depth = table.letters(), table.depth()
    rest = table
    found = []
    for word in prime_words(letters, depth):
        # Of what is left, only the commutator of this word has anything at the word.
        many = rest.number(word)
        if many != 0:
            found.append((word, many))
            rest = joined(power(table_of(letters, depth, _commutator(word)), -many), rest)
    if first_difference(rest, table_of(letters, depth, "")) is not None:
        return None
    return found


def _commutator(word):
    """Return what commutator returns, for a prime word."""
    if len(word) == 1:
        return word
    cut = 1
    while not is_prime(word[cut:]):
        cut = cut + 1
    front, end = _commutator(word[:cut]), _commutator(word[cut:])
    return front + end + opposite(front) + opposite(end)
