"""Texts told back from their tables, and papers that there are none."""

from skipcounts.errors import InvalidLetters, InvalidNumber, InvalidTable, InvalidText, TooLong
from skipcounts.levels import levels_of_signs
from skipcounts.tables import Table
from skipcounts.texts import is_letter, need_letters, stands_over
from skipcounts.wholes import is_count

MOST_LETTERS = 9
MOST_TO_TELL = 8


def peeled(table, letter):
    """Return the table of what stands behind a letter in a text with a table, None if it has a number below 0."""
    _need_deep(table)
    if not is_letter(letter) or letter not in table.letters():
        raise InvalidLetters(letter)
    many = len(table.letters())
    return _table_like(table, _peeled(table.numbers(), many, table.letters().index(letter)))


def how_many_texts(table):
    """Return how many texts have a table."""
    _need_deep(table)
    _need_short(table)
    return _texts_with(table.numbers(), len(table.letters()), {})


def text_back(table, number):
    """Return the text with a table that has so many others with it ahead of it in the order of texts."""
    _need_deep(table)
    _need_short(table)
    letters = table.letters()
    many = len(letters)
    known = {}
    if not is_count(number) or number >= _texts_with(table.numbers(), many, known):
        raise InvalidNumber(number)
    signs = []
    row = table.numbers()
    left = number
    while any(row[1:]):
        place = 0
        after = _peeled(row, many, 0)
        while left >= _texts_with(after, many, known):
            left = left - _texts_with(after, many, known)
            place = place + 1
            after = _peeled(row, many, place)
        signs.append(letters[place])
        row = after
    return "".join(signs)


def no_text_paper(table):
    """Return the tables, in order, to which letters lead from one that no text has, None if some text has it."""
    _need_deep(table)
    _need_short(table)
    many = len(table.letters())
    rows = [table.numbers()]
    seen = {tuple(rows[0]): True}
    at = 0
    while at < len(rows):
        if not any(rows[at][1:]):
            return None
        for place in range(many):
            after = _peeled(rows[at], many, place)
            if after is not None and tuple(after) not in seen:
                seen[tuple(after)] = True
                rows.append(after)
        at = at + 1
    return [_table_like(table, row) for row in sorted(rows)]


def is_no_text_paper(table, value):
    """Return whether a value are tables that show that no text has a table."""
    _need_deep(table)
    if not isinstance(value, list) or not all([_is_alike(table, item) for item in value]):
        return False
    rows = {tuple(item.numbers()): True for item in value}
    many = len(table.letters())
    if tuple(table.numbers()) not in rows:
        return False
    for row in rows:
        if not any(row[1:]):
            return False
        for place in range(many):
            after = _peeled(row, many, place)
            if after is not None and tuple(after) not in rows:
                return False
    return True


def telling_depth(letters, text):
    """Return the least number of letters, at least 1, so that the counts of words up to it tell a text."""
    need_letters(letters)
    if not stands_over(letters, text):
        raise InvalidText(text)
    if len(text) > MOST_TO_TELL:
        raise TooLong(len(text))
    depth = 1
    left = _arrangements(text)
    while len(left) > 1:
        depth = depth + 1
        own = levels_of_signs(letters, depth, text)
        left = [other for other in left if levels_of_signs(letters, depth, other) == own]
    return depth


def _need_deep(table):
    """Refuse what is no table of a depth of at least 1."""
    if not isinstance(table, Table) or table.depth() < 1:
        raise InvalidTable(table)


def _need_short(table):
    """Refuse a table of texts with more than 9 letters."""
    size = sum(table.numbers()[1:len(table.letters()) + 1])
    if size > MOST_LETTERS:
        raise TooLong(size)


def _is_alike(table, value):
    """Return whether a value is a table with the letters and the depth of a table."""
    return isinstance(value, Table) and value.letters() == table.letters() and value.depth() == table.depth()


def _table_like(table, row):
    """Return the table with these numbers and the letters and the depth of a table, None for None."""
    return None if row is None else Table(table.letters(), table.depth(), row)


def _peeled(row, many, place):
    """Return the numbers of what stands behind a letter, from those of a table over so many letters; None if none.

    The number at a word that begins with the letter has, too, the number of what stands behind at the rest of it.
    """
    found = list(row)
    ahead, start, size = 0, 1, 1
    while start < len(row):
        first = start + place * size
        for at in range(size):
            found[first + at] = row[first + at] - found[ahead + at]
        ahead, start, size = start, start + size * many, size * many
    return found if min(found) >= 0 else None


def _texts_with(row, many, known):
    """Return how many texts have the numbers of a table over so many letters; None is had by none."""
    if row is None:
        return 0
    key = tuple(row)
    if key not in known:
        if any(row[1:]):
            known[key] = sum([_texts_with(_peeled(row, many, place), many, known) for place in range(many)])
        else:
            known[key] = 1
    return known[key]


def _arrangements(text):
    """Return all texts with as many of each letter as a text."""
    found = [("", text)]
    for _ in text:
        found = [(made + sign, left.replace(sign, "", 1)) for made, left in found for sign in sorted(set(left))]
    return [made for made, _ in found]
