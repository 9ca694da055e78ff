"""Texts that are taken any number of times: rows of binomials, families of texts, and grids."""

from skipcounts.binomials import row_of_values, trimmed, value_of_row
from skipcounts.errors import InvalidList, InvalidNumber, TooLong
from skipcounts.sums import need_sum
from skipcounts.texts import is_text, letters_in, need_text, need_word, words_up_to
from skipcounts.trees import part_counts
from skipcounts.wholes import choose, is_count, is_from_to, is_whole

MOST_COUNTS = 3
MOST_IN_FAMILY = 8
MOST_IN_PIECE = 12
MOST_IN_TEXT = 300
MOST_DEPTH = 4


def power_row(word, text):
    """Return the row whose value at every count is the count of a word in a text taken so many times."""
    need_word(word)
    need_text(text)
    return _row_of_power(word, part_counts([word], text))


def member(many, family, point):
    """Return the member of a family at a point."""
    _need_many(many)
    _need_family(many, family)
    _need_point(many, point)
    pieces = [(text, _times(form, point)) for text, form in family if text != ""]
    size = sum([len(text) * times for text, times in pieces])
    if size > MOST_IN_TEXT:
        raise TooLong(size)
    return "".join([text * times for text, times in pieces])


def family_row(total, family):
    """Return the row whose value at every count is the worth of a sum at the member of a family there."""
    need_sum(total)
    _need_family(1, family)
    rows = _rows_of_parts(_words_of(total), family)
    return row_of_values([_worth_at(total, family, rows, [number]) for number in range(total.degree() + 1)])


def grid_value(many, grid, point):
    """Return the value of a grid at a point."""
    _need_many(many)
    _need_grid(many, grid)
    _need_point(many, point)
    return _value_at(grid, point)


def grids_part(many, one, other):
    """Return the least point at which two grids have different values, None if there is none."""
    _need_many(many)
    _need_grid(many, one)
    _need_grid(many, other)
    numbers = {indices: number for indices, number in one}
    others = {indices: number for indices, number in other}
    apart = [indices for indices in list(numbers) + list(others) if numbers.get(indices, 0) != others.get(indices, 0)]
    if not apart:
        return None
    return list(min([(sum(indices), indices) for indices in apart])[1])


def family_grid(many, total, family):
    """Return the grid whose value at every point is the worth of a sum at the member of a family there."""
    _need_many(many)
    need_sum(total)
    _need_family(many, family)
    rows = _rows_of_parts(_words_of(total), family)
    grid = []
    # At a point, indices that are greater anywhere add nothing, and its own ones add just their number.
    for point in _points(many, total.degree()):
        number = _worth_at(total, family, rows, point) - _value_at(grid, point)
        if number != 0:
            grid.append((tuple(point), number))
    return sorted(grid)


def families_part(many, one, other, depth):
    """Return None if all words up to a depth have the same counts in both members at all points, else what parts."""
    _need_many(many)
    _need_family(many, one)
    _need_family(many, other)
    if not is_from_to(depth, 0, MOST_DEPTH):
        raise InvalidNumber(depth)
    words = words_up_to(letters_in([text for text, _ in one + other]), depth)
    rows, other_rows = _rows_of_parts(words, one), _rows_of_parts(words, other)
    # Counts are told by their values at these points, as the words have no more letters.
    for point in _points(many, depth):
        numbers = _counts_at(words, one, rows, point)
        others = _counts_at(words, other, other_rows, point)
        for word in words:
            if numbers[word] != others[word]:
                return point, word
    return None


def _row_of_power(word, numbers):
    """Return what power_row returns, from the counts of all parts of a word in a text."""
    # The number at each place is that of the ways to cut the beginning up to there into so many parts.
    ends = [1] + [0] * len(word)
    row = [ends[-1]]
    for _ in range(len(word)):
        ends = _led_on(word, ends, numbers, 1)
        row.append(ends[-1])
    return trimmed(row)


def _led_on(word, ends, numbers, least):
    """Return for each beginning of a word the sum over its last parts, of at least so many letters.

    A part adds its own number, times what ends has for the beginning ahead of it.
    """
    found = []
    for end in range(len(word) + 1):
        found.append(sum([ends[start] * numbers[word[start:end]] for start in range(end + 1 - least)]))
    return found


def _words_of(total):
    """Return the words of a sum."""
    return [word for word, _ in total.terms()]


def _rows_of_parts(words, family):
    """Return for each tuple of a family the rows of all parts of some words, for its text taken any number of times."""
    found = []
    for text, _ in family:
        numbers = part_counts(words, text)
        found.append({part: _row_of_power(part, numbers) for part in numbers})
    return found


def _counts_at(words, family, rows, point):
    """Return the dict of some words with their counts in the member at a point."""
    ends = {word: [1] + [0] * len(word) for word in words}
    for (_, form), own in zip(family, rows):
        times = _times(form, point)
        numbers = {part: value_of_row(row, times) for part, row in own.items()}
        ends = {word: _led_on(word, ends[word], numbers, 0) for word in words}
    return {word: ends[word][-1] for word in words}


def _worth_at(total, family, rows, point):
    """Return the worth of a sum at the member at a point."""
    found = _counts_at(_words_of(total), family, rows, point)
    return sum([number * found[word] for word, number in total.terms()])


def _value_at(grid, point):
    """Return what grid_value returns, for what is known to be a grid and a point."""
    found = 0
    for indices, number in grid:
        share = number
        for own, index in zip(point, indices):
            share = share * choose(own, index)
        found = found + share
    return found


def _points(many, most):
    """Return all points of so many counts with a sum of at most this, by their sums and then in order."""
    return [point for size in range(most + 1) for point in _points_of(many, size)]


def _points_of(many, size):
    """Return all points of so many counts with this sum, in order."""
    if many == 1:
        return [[size]]
    return [[first] + rest for first in range(size + 1) for rest in _points_of(many - 1, size - first)]


def _times(form, point):
    """Return how often a form says that its text is taken at a point."""
    return form[0] + sum([times * own for times, own in zip(form[1:], point)])


def _are_counts(items, many):
    """Return whether the items of a list or tuple are so many counts."""
    return len(items) == many and all([is_count(item) for item in items])


def _need_many(many):
    """Refuse what is no number of counts of a point."""
    if not is_from_to(many, 1, MOST_COUNTS):
        raise InvalidNumber(many)


def _need_point(many, point):
    """Refuse what is no point of so many counts."""
    if not isinstance(point, list) or not _are_counts(point, many):
        raise InvalidList(point)


def _need_family(many, family):
    """Refuse what is no family for so many counts."""
    if not isinstance(family, list) or len(family) > MOST_IN_FAMILY:
        raise InvalidList(family)
    for item in family:
        if not isinstance(item, tuple) or len(item) != 2 or not is_text(item[0]) or len(item[0]) > MOST_IN_PIECE:
            raise InvalidList(family)
        if not isinstance(item[1], tuple) or not _are_counts(item[1], many + 1):
            raise InvalidList(family)


def _need_grid(many, grid):
    """Refuse what is no grid for so many counts."""
    if not isinstance(grid, list):
        raise InvalidList(grid)
    for item in grid:
        if not isinstance(item, tuple) or len(item) != 2 or not is_whole(item[1]) or item[1] == 0:
            raise InvalidList(grid)
        if not isinstance(item[0], tuple) or not _are_counts(item[0], many):
            raise InvalidList(grid)
    if not all([ahead[0] < behind[0] for ahead, behind in zip(grid, grid[1:])]):
        raise InvalidList(grid)
