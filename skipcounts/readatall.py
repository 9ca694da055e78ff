"""Words that are read at all, and texts in which the same ones are."""

from skipcounts.errors import InvalidNumber, TooMany
from skipcounts.texts import letters_in, need_text
from skipcounts.wholes import is_count

MOST_WORDS = 2000


def reads(depth, text):
    """Return all words of at most depth letters that are read in a text, in the order of texts."""
    need_depth(depth)
    need_text(text)
    many = sum(numbers_read(depth, text))
    if many > MOST_WORDS:
        raise TooMany(many)
    nexts = _next_places(text)
    found = []
    level = [("", 0)]
    while level and len(level[0][0]) <= depth:
        found.extend([word for word, _ in level])
        level = [(word + sign, nexts[place][sign]) for word, place in level for sign in sorted(nexts[place])]
    return found


def read_alike(depth, one, other):
    """Return whether two texts are read alike to a depth."""
    need_depth(depth)
    need_text(one)
    need_text(other)
    return are_alike(depth, one, other)


def read_likeness(one, other):
    """Return the greatest depth to which two texts are read alike, None if they are equal."""
    word = parting_word(one, other)
    return None if word is None else len(word) - 1


def parting_word(one, other):
    """Return the first word that is read in just one of two texts, None if they are equal."""
    need_text(one)
    need_text(other)
    return _parting(len(one) + len(other), one, other)


def steady_from(depth, head, part, tail):
    """Return the least number of times from which on a part can be taken so often, and all is read alike."""
    need_depth(depth)
    for text in [head, part, tail]:
        need_text(text)
    last = head + part * depth + tail
    # What is read only grows with the times, so what is alike to the last one is alike to all between.
    times = 0
    while not are_alike(depth, head + part * times + tail, last):
        times = times + 1
    return times


def need_depth(depth):
    """Refuse what is no depth to which texts are read."""
    if not is_count(depth):
        raise InvalidNumber(depth)


def is_read(word, text):
    """Return whether a word is read in a text, for two that are known to be right."""
    place = 0
    for sign in word:
        place = text.find(sign, place) + 1
        if place == 0:
            return False
    return True


def are_alike(depth, one, other):
    """Return what read_alike returns, for a depth and texts that are known to be right."""
    return _parting(min(depth, len(one) + len(other)), one, other) is None


def numbers_read(depth, text):
    """Return how many words of 0, 1 and so on letters, up to depth or all of them, are read in a text."""
    size = min(depth, len(text))
    found = [1] + [0] * size
    ahead = {}
    for sign in text:
        # A word that ends here is new unless what is ahead of its last letter was read ahead of the same letter.
        known = ahead.get(sign, [0] * (size + 1))
        ahead[sign] = found
        found = found[:1] + [found[at + 1] + found[at] - known[at] for at in range(size)]
    return found


def _parting(most, one, other):
    """Return the first word of at most so many letters that is read in just one of two texts, None if there is none."""
    if one == other:
        return None
    letters = letters_in([one, other])
    nexts, other_nexts = _next_places(one), _next_places(other)
    seen = {(0, 0): True}
    level = [("", 0, 0)]
    for _ in range(most):
        longer = []
        for word, place, other_place in level:
            row, other_row = nexts[place], other_nexts[other_place]
            for sign in letters:
                if (sign in row) != (sign in other_row):
                    return word + sign
                if sign in row:
                    # Words that end at the same places go on alike, so the first of them stands for all.
                    key = (row[sign], other_row[sign])
                    if key not in seen:
                        seen[key] = True
                        longer.append((word + sign, key[0], key[1]))
        level = longer
    return None


def _next_places(text):
    """Return for each number of letters passed the dict of the letters behind with the places right behind them."""
    rows = [{}]
    for place in reversed(range(len(text))):
        row = {sign: behind for sign, behind in rows[-1].items()}
        row[text[place]] = place + 1
        rows.append(row)
    return rows[::-1]
