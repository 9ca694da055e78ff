"""Readings of words in texts, and their counts."""

from skipcounts.errors import InvalidList, InvalidNumber, TooMany
from skipcounts.levels import levels_of_signs, row_of_levels
from skipcounts.texts import need_letters, need_text, need_word
from skipcounts.wholes import how_many_words, is_count, is_from_to, is_whole

MOST_DEPTH = 12
MOST_WORDS = 400


def count(word, text):
    """Return how many readings a word has in a text."""
    need_word(word)
    need_text(text)
    ways = [1] + [0] * len(word)
    for sign in text:
        # From the end, so that no place of the text is taken for two letters of the word.
        for at in reversed(range(len(word))):
            if word[at] == sign:
                ways[at + 1] = ways[at + 1] + ways[at]
    return ways[-1]


def is_reading(word, text, value):
    """Return whether a value is a reading of a word in a text."""
    need_word(word)
    need_text(text)
    return _reads(word, text, value)


def reading(word, text, number):
    """Return the reading of a word in a text that has so many readings ahead of it, in order."""
    need_word(word)
    need_text(text)
    ends = _end_counts(word, text)
    if not is_count(number) or number >= ends[0][0]:
        raise InvalidNumber(number)
    places = []
    left = number
    place = 0
    for at in range(len(word)):
        while word[at] != text[place] or left >= ends[at + 1][place + 1]:
            if word[at] == text[place]:
                left = left - ends[at + 1][place + 1]
            place = place + 1
        places.append(place)
        place = place + 1
    return tuple(places)


def reading_number(word, text, places):
    """Return how many readings of a word in a text are ahead of a reading, in order."""
    need_word(word)
    need_text(text)
    if not _reads(word, text, places):
        raise InvalidList(places)
    ends = _end_counts(word, text)
    found = 0
    start = 0
    for at, place in enumerate(places):
        for lower in range(start, place):
            if text[lower] == word[at]:
                found = found + ends[at + 1][lower + 1]
        start = place + 1
    return found


def used(word, text):
    """Return, for each place of a text, how many readings of a word have it."""
    need_word(word)
    need_text(text)
    ends = _end_counts(word, text)
    fronts = _end_counts(word[::-1], text[::-1])
    found = []
    for place, sign in enumerate(text):
        ways = 0
        for at, letter in enumerate(word):
            if letter == sign:
                ways = ways + fronts[len(word) - at][len(text) - place] * ends[at + 1][place + 1]
        found.append(ways)
    return found


def counts(letters, depth, text):
    """Return the counts in a text of all words over an alphabet with at most depth letters, in the order of texts."""
    need_letters(letters)
    if not is_from_to(depth, 0, MOST_DEPTH):
        raise InvalidNumber(depth)
    need_text(text)
    many = how_many_words(len(letters), depth)
    if many > MOST_WORDS:
        raise TooMany(many)
    return row_of_levels(levels_of_signs(letters, depth, text))


def _reads(word, text, value):
    """Return what is_reading returns, for a word and a text that are known to be right."""
    if not isinstance(value, tuple) or len(value) != len(word):
        return False
    lowest = 0
    for letter, place in zip(word, value):
        if not is_whole(place) or not lowest <= place < len(text) or text[place] != letter:
            return False
        lowest = place + 1
    return True


def _end_counts(word, text):
    """Return, for each number of letters left out at the front of the word and of the text, the count of the rest."""
    rows = [[1] * (len(text) + 1)]
    for letter in reversed(word):
        shorter = rows[-1]
        row = [0]
        for place in reversed(range(len(text))):
            more = shorter[place + 1] if text[place] == letter else 0
            row.append(row[-1] + more)
        rows.append(row[::-1])
    return rows[::-1]
