"""Signed texts with the same table to a depth."""

from skipcounts.errors import InvalidList
from skipcounts.tables import first_difference, need_depth, need_signed, table_of
from skipcounts.texts import in_order, is_text, need_letters, need_text


def depth_alike(letters, most, one, other):
    """Return the greatest depth, at most so much, to which two signed texts have the same table."""
    need_letters(letters)
    need_depth(letters, most)
    need_signed(letters, one)
    need_signed(letters, other)
    word = first_difference(table_of(letters, most, one), table_of(letters, most, other))
    if word is None:
        return most
    return len(word) - 1


def twist(x, y, parts):
    """Return two texts, made of two texts and some parts, that are alike to a depth of 1 more than there are parts."""
    _need_parts(x, y, parts)
    return _twisted(x, y, parts)


def twist_gap(x, y, parts):
    """Return the words of 2 letters more than there are parts with unlike counts in what twist makes, and the gaps."""
    _need_parts(x, y, parts)
    gap = _commuted({letter: x.count(letter) for letter in x}, {letter: y.count(letter) for letter in y})
    around = x + y
    for part in parts:
        # Of what stands around the gap, only the single letters matter: all else makes longer words.
        signs = part + around
        gap = _commuted(gap, {letter: signs.count(letter) for letter in signs})
        around = around + part + around
    return [(word, gap[word]) for word in in_order(list(gap))]


def without_capitals(letters, depth, signed):
    """Return two texts of which the table of the first, joined with that of a signed text, is that of the second."""
    need_letters(letters)
    need_depth(letters, depth)
    need_signed(letters, signed)
    front, made = "", ""
    for sign in signed:
        letter = sign.lower()
        if sign == letter:
            made = made + sign
        elif made.endswith(letter):
            made = made[:-1]
        else:
            front_more, made = _letter_taken(made, letter, depth)
            front = front_more + front
    return front, made


def _letter_taken(text, letter, depth):
    """Return two texts: the first one, then text, then the opposite of a letter is alike to the second one."""
    if text == "":
        return letter, ""
    pair = _twisted(text, letter, [""] * (depth - 1))
    # Both are alike, and with each part the one that ends with the letter changes its place.
    with_letter, with_text = pair if depth % 2 == 1 or depth == 0 else pair[::-1]
    return with_text[:len(with_text) - len(text)], with_letter[:-1]


def _twisted(x, y, parts):
    """Return what twist returns, for arguments that are known to be right."""
    one, other = x + y, y + x
    for part in parts:
        one, other = one + part + other, other + part + one
    return one, other


def _commuted(one, other):
    """Return, for numbers at words, those of what both make in this order less those in the other order."""
    found = {}
    for word, number in one.items():
        for end, own in other.items():
            found[word + end] = found.get(word + end, 0) + number * own
            found[end + word] = found.get(end + word, 0) - number * own
    return {word: number for word, number in found.items() if number != 0}


def _need_parts(x, y, parts):
    """Refuse what twist and twist_gap can not be told of."""
    need_text(x)
    need_text(y)
    if not isinstance(parts, list) or not all([is_text(part) for part in parts]):
        raise InvalidList(parts)
