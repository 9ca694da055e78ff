"""Kept texts: texts of any length, kept as parts with the numbers of times that they are taken."""

from skipcounts.errors import InvalidKept, InvalidList, InvalidNumber, TooLong, TooMany
from skipcounts.keptwalks import Walk, letter_at, size_of
from skipcounts.levels import levels_of_signs, row_of_levels
from skipcounts.series import joined_levels, made_of_powers, rest_powers
from skipcounts.texts import is_text, letters_in, need_letters, need_word, words_up_to
from skipcounts.wholes import choose, is_count, is_from_to

MOST_TUPLES = 60
MOST_LETTERS = 1_000_000_000_000_000_000_000_000_000_000_000_000_000_000_000_000_000_000_000_000
MOST_WRITTEN = 300
MOST_DEPTH = 4


class Kept:
    """A text that is kept as parts, each a text or a kept text, with the numbers of times that they are taken."""

    def __init__(self, pieces):
        if not _are_pieces(pieces):
            raise InvalidList(pieces)
        many = len(pieces) + sum([part._many for part, _ in pieces if isinstance(part, Kept)])
        if many > MOST_TUPLES:
            raise TooMany(many)
        length = _length_of(pieces)
        if length > MOST_LETTERS:
            raise TooLong(length)
        self._pieces = list(pieces)
        self._many = many
        self._length = length

    def pieces(self):
        """Return the parts with the numbers of times."""
        return list(self._pieces)

    def length(self):
        """Return how many letters are written."""
        return self._length


def written(kept):
    """Return the text that a kept text writes."""
    _need_kept(kept)
    if kept.length() > MOST_WRITTEN:
        raise TooLong(kept.length())
    return _written(kept)


def kept_cut(kept, low, high):
    """Return a kept text that writes the letters with the numbers from low on that are below high."""
    _need_kept(kept)
    if not is_from_to(low, 0, kept.length()):
        raise InvalidNumber(low)
    if not is_from_to(high, low, kept.length()):
        raise InvalidNumber(high)
    return _cut(kept, low, high)


def kept_count(word, kept):
    """Return the count of a word in what is written."""
    need_word(word)
    _need_kept(kept)
    walk = Walk(word)
    return walk.behind(walk.start(), kept, 1)[-1]


def kept_counts(letters, depth, kept):
    """Return the counts of all words over an alphabet with at most depth letters, in the order of texts."""
    need_letters(letters)
    _need_depth(depth)
    _need_kept(kept)
    return row_of_levels(_levels_of(letters, depth, kept))


def kept_part(one, other, depth):
    """Return the first word of at most depth letters that has different counts in two kept texts, None if none."""
    _need_kept(one)
    _need_kept(other)
    _need_depth(depth)
    letters = letters_in(_parts_in(one) + _parts_in(other))
    row, other_row = [row_of_levels(_levels_of(letters, depth, kept)) for kept in [one, other]]
    for word, number, other_number in zip(words_up_to(letters, depth), row, other_row):
        if number != other_number:
            return word
    return None


def reached(word, kept, number):
    """Return how many letters it takes, at least, for a word to have so many readings, None if it has fewer in all."""
    need_word(word)
    _need_kept(kept)
    if not is_count(number):
        raise InvalidNumber(number)
    walk = Walk(word)
    return walk.letters_to(walk.start(), kept, len(word), number)


def kept_reading(word, kept, number):
    """Return the reading of a word that has so many readings ahead of it, in order."""
    need_word(word)
    _need_kept(kept)
    # Read from the end, so that the counts of the ends of the word in the last letters stand side by side.
    walk, mirror = Walk(word[::-1]), _mirrored(kept)
    row = walk.behind(walk.start(), mirror, 1)
    if not is_count(number) or number >= row[-1]:
        raise InvalidNumber(number)
    places = []
    left = number
    for at in reversed(range(1, len(word) + 1)):
        # Readings that are not ahead stand in the last letters, of which these are the fewest with so many.
        size = walk.letters_to(walk.start(), mirror, at, row[at] - left)
        left = left - row[at] + walk.behind_letters(walk.start(), mirror, size)[at]
        places.append(kept.length() - size)
        row = walk.behind_letters(walk.start(), mirror, size - 1)
    return tuple(places)


def kept_reading_number(word, kept, places):
    """Return how many readings of a word are ahead of a reading, in order."""
    need_word(word)
    _need_kept(kept)
    if not _is_reading(word, kept, places):
        raise InvalidList(places)
    walk, mirror = Walk(word[::-1]), _mirrored(kept)
    row = walk.behind(walk.start(), mirror, 1)
    found = 0
    for at, place in enumerate(places):
        size = kept.length() - place
        found = found + row[len(word) - at] - walk.behind_letters(walk.start(), mirror, size)[len(word) - at]
        row = walk.behind_letters(walk.start(), mirror, size - 1)
    return found


def _are_pieces(value):
    """Return whether a value is a list of tuples of a text or a kept text and a count."""
    if not isinstance(value, list):
        return False
    for item in value:
        if not isinstance(item, tuple) or len(item) != 2 or not is_count(item[1]):
            return False
        if not is_text(item[0]) and not isinstance(item[0], Kept):
            return False
    return True


def _length_of(pieces):
    """Return how many letters pieces write."""
    return sum([size_of(part) * times for part, times in pieces])


def _need_kept(kept):
    """Refuse what is no kept text."""
    if not isinstance(kept, Kept):
        raise InvalidKept(kept)


def _need_depth(depth):
    """Refuse what is no depth to which words are counted."""
    if not is_from_to(depth, 0, MOST_DEPTH):
        raise InvalidNumber(depth)


def _made(pieces):
    """Return the kept text of pieces that may be more than are let in."""
    made = Kept([])
    made._pieces = pieces
    made._many = len(pieces) + sum([part._many for part, _ in pieces if isinstance(part, Kept)])
    made._length = _length_of(pieces)
    return made


def _written(part):
    """Return the text that a part writes."""
    if isinstance(part, str):
        return part
    # A part that is taken 0 times may be too long for a text, and one without letters may be taken too often for one.
    return "".join([_written(own) * times for own, times in part.pieces() if size_of(own) * times > 0])


def _cut(part, low, high):
    """Return a part that writes the letters of a part from low on that are below high."""
    if isinstance(part, str):
        return part[low:high]
    if (low, high) == (0, part.length()):
        return part
    pieces = []
    start = 0
    for own, times in part.pieces():
        end = start + size_of(own) * times
        if max(low, start) < min(high, end):
            pieces.extend(_cut_copies(own, max(low, start) - start, min(high, end) - start))
        start = end
    return _made(pieces)


def _cut_copies(part, low, high):
    """Return pieces that write the letters from low on, below high, of a part taken often enough; low is below high."""
    size = size_of(part)
    first, last = low // size, (high - 1) // size
    if first == last:
        return [(_cut(part, low - first * size, high - first * size), 1)]
    return [(_cut(part, low - first * size, size), 1), (part, last - first - 1), (_cut(part, 0, high - last * size), 1)]


def _mirrored(part):
    """Return the part that writes the same letters from the last one to the first one."""
    if isinstance(part, str):
        return part[::-1]
    return _made([(_mirrored(own), times) for own, times in part.pieces()[::-1]])


def _parts_in(part):
    """Return the texts that are written within a part, once or more."""
    if isinstance(part, str):
        return [part]
    return [text for own, times in part.pieces() if times > 0 for text in _parts_in(own)]


def _levels_of(letters, depth, part):
    """Return the levels of the counts of all words over some letters in a part."""
    if isinstance(part, str):
        return levels_of_signs(letters, depth, part)
    found = levels_of_signs(letters, depth, "")
    for own, times in part.pieces():
        shares = [choose(times, size) for size in range(depth + 1)]
        found = joined_levels(found, made_of_powers(rest_powers(_levels_of(letters, depth, own)), shares))
    return found


def _is_reading(word, kept, value):
    """Return whether a value is a reading of a word in what is written."""
    if not isinstance(value, tuple) or len(value) != len(word):
        return False
    lowest = 0
    for letter, place in zip(word, value):
        if not is_from_to(place, lowest, kept.length() - 1) or letter_at(kept, place) != letter:
            return False
        lowest = place + 1
    return True
