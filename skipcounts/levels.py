"""Numbers for all words over some letters up to a depth, as levels.

Levels are a list of lists: the list with the index n has a number for each word of n letters, in order. So a word
that is made of a word with the place i and one of m letters with the place j has the place i * p + j, where p is how
many words of m letters there are.
"""

from skipcounts.texts import words_up_to


def levels_of_row(row, many, depth):
    """Return the levels of the numbers of all words over so many letters, in the order of texts."""
    found = []
    start = 0
    size = 1
    for _ in range(depth + 1):
        found.append(row[start:start + size])
        start = start + size
        size = size * many
    return found


def row_of_levels(levels):
    """Return the numbers of levels, in the order of texts."""
    return [number for level in levels for number in level]


def levels_of_numbers(numbers, letters, depth):
    """Return the levels of the numbers that a dict has for words; words that it has not have 0."""
    row = [numbers.get(word, 0) for word in words_up_to(letters, depth)]
    return levels_of_row(row, len(letters), depth)


def numbers_of_levels(levels, letters):
    """Return the dict of the words over some letters with their numbers in levels, where these are not 0."""
    words = words_up_to(letters, len(levels) - 1)
    return {word: number for word, number in zip(words, row_of_levels(levels)) if number != 0}


def levels_of_signs(letters, depth, signs):
    """Return the levels of the table of a signed text; signs of other letters are left out."""
    many = len(letters)
    levels = [[1]]
    for _ in range(depth):
        levels.append([0] * (many * len(levels[-1])))
    for sign in signs:
        small = sign.lower()
        if small in letters:
            _put_behind(levels, many, letters.index(small), sign == small)
    return levels


def _put_behind(levels, many, place, is_small):
    """Change levels into those with one sign more at the end of the signed text."""
    sizes = list(range(len(levels) - 1))
    if is_small:
        # A letter stands once, so longer words take what the shorter ones had without it.
        sizes = sizes[::-1]
    for size in sizes:
        longer = levels[size + 1]
        for at, number in enumerate(levels[size]):
            if is_small:
                longer[at * many + place] = longer[at * many + place] + number
            else:
                longer[at * many + place] = longer[at * many + place] - number


def worth_levels(levels, many):
    """Return the worths at all texts, from the numbers at all words, over so many letters."""
    return _turned(levels, many, 1)


def number_levels(levels, many):
    """Return the numbers at all words, from the worths at all texts, over so many letters."""
    return _turned(levels, many, -1)


def _turned(levels, many, share):
    """Go through the places of the words from the front: each letter stays, and is left out with this share."""
    found = [levels[0]]
    rest = levels
    while len(rest) > 1:
        # In rest, the level n belongs to words with n letters behind those that are settled.
        settled = []
        size = 1
        for at in range(len(rest) - 1):
            without = _blocks_again(rest[at], size, many)
            settled.append([share * left + kept for left, kept in zip(without, rest[at + 1])])
            size = size * many
        rest = settled
        found.append(rest[0])
    return found


def _blocks_again(row, size, many):
    """Return a row in which each block of so many items stands so many times."""
    if size == 1:
        return [item for item in row for _ in range(many)]
    starts = range(0, len(row), size)
    return [item for start in starts for _ in range(many) for item in row[start:start + size]]
