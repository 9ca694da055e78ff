"""Sayings by counts: finite machines that tell them, first texts, and papers that no text keeps them."""

from skipcounts.errors import InvalidSaying, TooMany
from skipcounts.finites import Finite
from skipcounts.leastfinites import least_of
from skipcounts.readings import count
from skipcounts.sums import Sum
from skipcounts.texts import in_order, need_letters, need_text_over, stands_over
from skipcounts.wholes import is_from_to

MOST_IN_WORD = 6
MOST_NUMBER = 20
MOST_DEGREE = 4
LEAST_BY = 2
MOST_BY = 9
MOST_STATES = 600


def is_saying(letters, value):
    """Return whether a value is a saying over an alphabet."""
    need_letters(letters)
    return _is_saying(letters, value)


def keeps(letters, saying, text):
    """Return whether a text keeps a saying."""
    need_letters(letters)
    _need_saying(letters, saying)
    need_text_over(letters, text)
    return _keeps(saying, text)


def capped_counts(letters, saying, text):
    """Return the capped counts of a text for a saying."""
    need_letters(letters)
    _need_saying(letters, saying)
    need_text_over(letters, text)
    return _counts_behind(_cells(saying), text)


def saying_machine(letters, saying):
    """Return the least finite machine whose texts are just those that keep a saying."""
    need_letters(letters)
    _need_saying(letters, saying)
    moves, texts = _states(letters, saying)
    least, told = least_of(moves, [1 if _keeps(saying, text) else 0 for text in texts])
    return Finite(letters, least, [state for state, mark in enumerate(told) if mark == 1])


def first_kept(letters, saying):
    """Return the first text that keeps a saying, None if there is none."""
    need_letters(letters)
    _need_saying(letters, saying)
    _, texts = _states(letters, saying)
    for text in texts:
        if _keeps(saying, text):
            return text
    return None


def parting_saying(letters, one, other):
    """Return the first text that keeps just one of two sayings, None if there is none."""
    need_letters(letters)
    _need_saying(letters, one)
    _need_saying(letters, other)
    _, texts = _states(letters, ("and", one, other))
    for text in texts:
        if _keeps(one, text) != _keeps(other, text):
            return text
    return None


def never_paper(letters, saying):
    """Return the first texts with all capped counts that occur, in order, None if some text keeps the saying."""
    need_letters(letters)
    _need_saying(letters, saying)
    _, texts = _states(letters, saying)
    if any([_keeps(saying, text) for text in texts]):
        return None
    return texts


def is_never_paper(letters, saying, value):
    """Return whether a value are texts that show that no text keeps a saying."""
    need_letters(letters)
    _need_saying(letters, saying)
    if not isinstance(value, list) or not all([stands_over(letters, text) for text in value]):
        return False
    if "" not in value or any([_keeps(saying, text) for text in value]):
        return False
    cells = _cells(saying)
    known = {_counts_behind(cells, text): True for text in value}
    return all([_after(cells, own, letter) in known for own in known for letter in letters])


def _is_saying(letters, value):
    """Return what is_saying returns, for what is known to be an alphabet."""
    if not isinstance(value, tuple) or not value or not isinstance(value[0], str):
        return False
    kind, given = value[0], value[1:]
    if kind == "not":
        return len(given) == 1 and _is_saying(letters, given[0])
    if kind == "and" or kind == "or":
        return len(given) == 2 and _is_saying(letters, given[0]) and _is_saying(letters, given[1])
    if kind == "is" or kind == "least":
        if len(given) != 2 or not stands_over(letters, given[0]) or not 1 <= len(given[0]) <= MOST_IN_WORD:
            return False
        return is_from_to(given[1], 0, MOST_NUMBER)
    if kind != "rest" or len(given) != 3 or not isinstance(given[0], Sum) or given[0].degree() > MOST_DEGREE:
        return False
    if not all([stands_over(letters, word) for word, _ in given[0].terms()]):
        return False
    return is_from_to(given[1], LEAST_BY, MOST_BY) and is_from_to(given[2], 0, given[1] - 1)


def _need_saying(letters, saying):
    """Refuse what is no saying over an alphabet."""
    if not _is_saying(letters, saying):
        raise InvalidSaying(saying)


def _keeps(saying, text):
    """Return what keeps returns, for a saying and a text that are known to be right."""
    kind = saying[0]
    if kind == "is":
        return count(saying[1], text) == saying[2]
    if kind == "least":
        return count(saying[1], text) >= saying[2]
    if kind == "rest":
        return saying[1].worth(text) % saying[2] == saying[3]
    if kind == "and":
        return _keeps(saying[1], text) and _keeps(saying[2], text)
    if kind == "or":
        return _keeps(saying[1], text) or _keeps(saying[2], text)
    return not _keeps(saying[1], text)


def _cells(saying):
    """Return a tuple for each of the capped counts: (last letter, place ahead, bound, whether it is a rest).

    The place ahead is that of the word without its last letter, None for the empty word.
    """
    cells = []
    for atom in _atoms(saying):
        if atom[0] == "rest":
            words = [word for word, _ in atom[1].terms()]
            bound = atom[2]
        else:
            words = [atom[1]]
            bound = atom[2] + 1
        beginnings = in_order(sorted(set([word[:size] for word in words for size in range(1, len(word) + 1)])))
        places = {}
        for word in beginnings:
            places[word] = len(cells)
            cells.append((word[-1], places.get(word[:-1]), bound, atom[0] == "rest"))
    return cells


def _atoms(saying):
    """Return what a saying is put together of, in the order in which it is written."""
    if saying[0] == "not":
        return _atoms(saying[1])
    if saying[0] == "and" or saying[0] == "or":
        return _atoms(saying[1]) + _atoms(saying[2])
    return [saying]


def _after(cells, counts, letter):
    """Return the capped counts of a text with a letter behind it, from those of the text."""
    found = []
    for (sign, ahead, bound, is_rest), own in zip(cells, counts):
        number = own
        if sign == letter:
            number = own + (1 if ahead is None else counts[ahead])
        found.append(number % bound if is_rest else min(number, bound))
    return tuple(found)


def _counts_behind(cells, text):
    """Return the capped counts of a text."""
    found = tuple([0 for _ in cells])
    for sign in text:
        found = _after(cells, found, sign)
    return found


def _states(letters, saying):
    """Return the moves between all capped counts that texts have, and the first texts that have them, in order."""
    cells = _cells(saying)
    rows = [_counts_behind(cells, "")]
    numbers = {rows[0]: 0}
    texts = [""]
    moves = []
    while len(moves) < len(rows):
        own = rows[len(moves)]
        row = []
        for letter in letters:
            after = _after(cells, own, letter)
            if after not in numbers:
                if len(rows) == MOST_STATES:
                    raise TooMany(MOST_STATES + 1)
                numbers[after] = len(rows)
                rows.append(after)
                texts.append(texts[len(moves)] + letter)
            row.append(numbers[after])
        moves.append(row)
    return moves, texts
