"""Sets of texts that are told by rests of sums: the sums, bars where there are none, and parts for several primes."""

from skipcounts.errors import InvalidNumber, InvalidText, TooMany
from skipcounts.finites import need_finite
from skipcounts.leastfinites import full_moves, least_finite
from skipcounts.levels import levels_of_row, number_levels, numbers_of_levels
from skipcounts.restparts import parts_of
from skipcounts.roundtrips import bar_of, first_and_turn, is_power_of, vanishes_by
from skipcounts.sums import Sum, sum_of_numbers
from skipcounts.texts import stands_over, words_up_to
from skipcounts.wholes import is_from_to

MOST_DEPTH = 6
MOST_PRIME = 97
MOST_TERMS = 3000


def expansion(finite, depth):
    """Return the words of at most depth letters with the numbers that make the marks of all texts."""
    need_finite(finite)
    if not is_from_to(depth, 0, MOST_DEPTH):
        raise InvalidNumber(depth)
    letters = finite.letters()
    moves, told = full_moves(finite)
    states = {"": 0}
    for text in words_up_to(letters, depth):
        if text != "":
            states[text] = moves[states[text[:-1]]][letters.index(text[-1])]
    row = [told[state] for state in states.values()]
    levels = levels_of_row(row, len(letters), depth)
    return sum_of_numbers(numbers_of_levels(number_levels(levels, len(letters)), letters)).terms()


def told_by(finite, prime):
    """Return the sum whose rests by a prime number are the marks of all texts, None if there is none."""
    need_finite(finite)
    _need_prime(prime)
    moves, told = least_finite(finite)
    if not vanishes_by(moves, told, prime):
        return None
    letters = finite.letters()
    terms = []
    level = [("", told)] if any(told) else []
    # With a word stand the rests of its numbers for the sets of the texts that lead from each state to an end. They
    # are not all 0 exactly if some term ends with the word, so there are as many terms as such words of one length.
    while level:
        terms.extend([(word, row[0]) for word, row in level if row[0] != 0])
        if max(len(terms), len(level)) > MOST_TERMS:
            raise TooMany(MOST_TERMS + 1)
        longer = []
        for word, row in level:
            for place, letter in enumerate(letters):
                after = [(row[own[place]] - rest) % prime for own, rest in zip(moves, row)]
                if any(after):
                    longer.append((letter + word, after))
        level = longer
    return Sum(terms)


def marks(finite, head, part, end):
    """Return the marks of the texts in which a part is taken 0, 1, 2 and so on times: the first ones, and the turn."""
    need_finite(finite)
    for text in [head, part, end]:
        if not stands_over(finite.letters(), text):
            raise InvalidText(text)
    moves, told = full_moves(finite)
    return first_and_turn(finite.letters(), moves, told, (head, part, end))


def bar(finite, prime):
    """Return texts whose marks no sum tells by a prime number, None if there are none."""
    need_finite(finite)
    _need_prime(prime)
    moves, told = least_finite(finite)
    if vanishes_by(moves, told, prime):
        return None
    return bar_of(finite.letters(), moves, told, prime)


def is_bar(finite, prime, value):
    """Return whether a value are texts whose marks no sum tells by a prime number."""
    need_finite(finite)
    _need_prime(prime)
    letters = finite.letters()
    if not isinstance(value, tuple) or len(value) != 3 or not all([stands_over(letters, text) for text in value]):
        return False
    moves, told = full_moves(finite)
    first, turn = first_and_turn(letters, moves, told, value)
    return first != [] or not is_power_of(prime, len(turn))


def rest_parts(finite):
    """Return the machines for unlike primes of which the least machine is put together, None if it is not."""
    need_finite(finite)
    moves, _ = least_finite(finite)
    return parts_of(moves)


def is_rest_parts(finite, value):
    """Return whether a value is the list of the machines of which the least machine is put together."""
    need_finite(finite)
    moves, _ = least_finite(finite)
    found = parts_of(moves)
    return found is not None and _is_just(value, found)


def _need_prime(prime):
    """Refuse what is no prime number of at most 97."""
    if not is_from_to(prime, 2, MOST_PRIME):
        raise InvalidNumber(prime)
    if any([prime % number == 0 for number in range(2, prime)]):
        raise InvalidNumber(prime)


def _is_just(value, other):
    """Return whether a value is equal to lists and tuples of whole numbers, of the same kinds throughout."""
    if isinstance(other, list):
        if not isinstance(value, list):
            return False
    elif isinstance(other, tuple):
        if not isinstance(value, tuple):
            return False
    else:
        return is_from_to(value, other, other)
    return len(value) == len(other) and all([_is_just(item, own) for item, own in zip(value, other)])
