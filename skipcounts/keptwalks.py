"""Counts on the way through kept texts, that is parts with the numbers of times that they are taken.

A part is a text, or an object with pieces() and length() as kept texts have them.
"""

from skipcounts.linear import taken, unit_table
from skipcounts.trees import part_counts
from skipcounts.wholes import choose


class Walk:
    """A word, and how the counts of all its beginnings go on through parts.

    These counts are a row: the place at says how many readings the first letters, so many, have in what was passed.
    """

    def __init__(self, word):
        self._word = word
        self._rises = {}

    def start(self):
        """Return the counts in the empty text."""
        return [1] + [0] * len(self._word)

    def behind(self, row, part, times):
        """Return the counts behind so many copies of a part."""
        return _row_at(self._rows_behind(row, part), times)

    def behind_letters(self, row, part, size):
        """Return the counts behind the first letters, so many, of a part."""
        if isinstance(part, str):
            return self.behind(row, part[:size], 1)
        found = row
        left = size
        for own, times in part.pieces():
            whole = size_of(own) * times
            if left < whole:
                copies = left // size_of(own)
                return self.behind_letters(self.behind(found, own, copies), own, left - copies * size_of(own))
            found = self.behind(found, own, times)
            left = left - whole
        return found

    def letters_to(self, row, part, at, number):
        """Return the fewest letters of a part behind which the count at a place is at least this, None if none are."""
        if row[at] >= number:
            return 0
        if isinstance(part, str):
            return self._signs_to(row, part, at, number)
        size = 0
        found = row
        for own, times in part.pieces():
            rows = self._rows_behind(found, own)
            after = _row_at(rows, times)
            if after[at] >= number:
                copies = _copies_below([line[at] for line in rows], times, number)
                return size + copies * size_of(own) + self.letters_to(_row_at(rows, copies), own, at, number)
            size = size + times * size_of(own)
            found = after
        return None

    def _signs_to(self, row, text, at, number):
        """Return what letters_to returns, for a text."""
        found = row
        for place, sign in enumerate(text):
            found = self.behind(found, sign, 1)
            if found[at] >= number:
                return place + 1
        return None

    def _rows_behind(self, row, part):
        """Return the rows that make the counts behind any number of copies, each taken as often as its binomial."""
        rises = self._rise(part)
        rows = [row]
        for _ in self._word:
            rows.append(taken(rows[-1], rises))
        return rows

    def _rise(self, part):
        """Return the table by which the counts grow behind a part."""
        if part not in self._rises:
            if isinstance(part, str):
                self._rises[part] = self._rise_of_text(part)
            else:
                table = []
                for row in unit_table(len(self._word) + 1):
                    after = row
                    for own, times in part.pieces():
                        after = self.behind(after, own, times)
                    table.append([number - ahead for number, ahead in zip(after, row)])
                self._rises[part] = table
        return self._rises[part]

    def _rise_of_text(self, text):
        """Return the same for a text: the counts of the parts of the word that the text may bring."""
        word = self._word
        numbers = part_counts([word], text)
        places = range(len(word) + 1)
        return [[numbers[word[low:high]] if low < high else 0 for high in places] for low in places]


def size_of(part):
    """Return how many letters a part has."""
    return len(part) if isinstance(part, str) else part.length()


def letter_at(part, place):
    """Return the letter at a place of a part, which has more letters than this."""
    if isinstance(part, str):
        return part[place]
    left = place
    for own, times in part.pieces():
        whole = size_of(own) * times
        if left < whole:
            return letter_at(own, left % size_of(own))
        left = left - whole
    return None


def _row_at(rows, number):
    """Return the sum of rows, each taken as often as the binomial of a number and its index."""
    shares = [choose(number, at) for at in range(len(rows))]
    return taken(shares, rows)


def _copies_below(items, times, number):
    """Return the greatest count below times at which the sum of items, taken as binomials say, is less than this."""
    low, high = 0, times
    while high - low > 1:
        middle = (low + high) // 2
        if sum([item * choose(middle, at) for at, item in enumerate(items)]) < number:
            low = middle
        else:
            high = middle
    return low
