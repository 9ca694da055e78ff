"""A live book: a text and sums, changed by deeds that can be taken back and done again."""

from skipcounts.errors import InvalidDeed, InvalidList, InvalidNumber, NothingToRedo, NothingToUndo
from skipcounts.levels import levels_of_numbers, row_of_levels, worth_levels
from skipcounts.sums import Sum, letters_of, need_sum
from skipcounts.texts import is_text, letters_in, need_text, words_up_to
from skipcounts.trees import part_counts
from skipcounts.wholes import is_from_to

MOST_SUMS = 8
MOST_IN_TEXT = 300
MOST_IN_WORD = 4


class Book:
    """A text and a list of sums."""

    def __init__(self, text, sums):
        need_text(text)
        if not isinstance(sums, list) or len(sums) > MOST_SUMS:
            raise InvalidList(sums)
        for total in sums:
            need_sum(total)
        self._text = text
        self._sums = list(sums)
        self._log = []
        # For each deed that is done what was there ahead of it, and for each one taken back what was there behind it.
        self._ahead = []
        self._behind = []

    def text(self):
        """Return the text."""
        return self._text

    def sums(self):
        """Return the sums."""
        return list(self._sums)

    def worths(self):
        """Return the worths of the sums at the text."""
        return [total.worth(self._text) for total in self._sums]

    def do(self, deed):
        """Do a deed that can be done now, and forget what was taken back."""
        if not is_deed(self, deed):
            raise InvalidDeed(deed)
        self._ahead.append((self._text, self._sums))
        self._text, self._sums = _done(self._text, self._sums, deed)
        self._log.append(deed)
        self._behind = []

    def undo(self):
        """Take the last deed back that is done."""
        if not self._log:
            raise NothingToUndo()
        self._behind.append((self._log.pop(), self._text, self._sums))
        self._text, self._sums = self._ahead.pop()

    def redo(self):
        """Do again what was taken back last."""
        if not self._behind:
            raise NothingToRedo()
        self._ahead.append((self._text, self._sums))
        deed, self._text, self._sums = self._behind.pop()
        self._log.append(deed)

    def log(self):
        """Return the deeds that are done and not taken back, the first one first."""
        return list(self._log)

    def copy(self):
        """Return a book that is equal to this one and goes its own way from now on."""
        made = Book(self._text, self._sums)
        made._log = list(self._log)
        made._ahead = list(self._ahead)
        made._behind = list(self._behind)
        return made

    def growth(self, deed):
        """Return by how much each worth would grow by a deed that leaves the sums as they are."""
        if not is_deed(self, deed) or deed[0] == "add" or deed[0] == "drop":
            raise InvalidDeed(deed)
        text, _ = _done(self._text, self._sums, deed)
        return [total.worth(text) - total.worth(self._text) for total in self._sums]

    def quiet(self, low, high):
        """Return the letters that can stand in the place of all letters from low to below high with the same worths."""
        _need_from_to(low, 0, len(self._text))
        _need_from_to(high, low, len(self._text))
        worths = self.worths()
        found = []
        for letter in letters_in([self._text] + [letters_of(total) for total in self._sums]):
            text = self._text[:low] + letter * (high - low) + self._text[high:]
            if [total.worth(text) for total in self._sums] == worths:
                found.append(letter)
        return found

    def shortest_put(self, place, size):
        """Return the first word of at most so many letters that leaves the worths if put ahead of a place, or None."""
        _need_from_to(place, 0, len(self._text))
        _need_from_to(size, 1, MOST_IN_WORD)
        letters = letters_in([letters_of(total) for total in self._sums])
        if letters == "":
            return None
        rises = [_rises(total, self._text[:place], self._text[place:], letters, size) for total in self._sums]
        for at, word in enumerate(words_up_to(letters, size)):
            if word != "" and all([row[at] == 0 for row in rises]):
                return word
        return None

    def __eq__(self, other):
        return (isinstance(other, Book) and self._text == other._text and self._sums == other._sums
                and self._log == other._log)


def is_deed(book, value):
    """Return whether a value is a deed that can be done to a book now."""
    if not isinstance(book, Book):
        raise InvalidDeed(book)
    if not _is_deed(book.text(), len(book.sums()), value):
        return False
    text, sums = _done(book.text(), book.sums(), value)
    return len(text) <= MOST_IN_TEXT and len(sums) <= MOST_SUMS


def _is_deed(text, many, value):
    """Return whether a value is a deed for a text and so many sums, whatever comes of it."""
    if not isinstance(value, tuple) or not value or not isinstance(value[0], str):
        return False
    kind, given = value[0], value[1:]
    if kind == "put":
        return len(given) == 2 and is_from_to(given[0], 0, len(text)) and is_text(given[1])
    if kind == "take":
        return len(given) == 2 and is_from_to(given[1], 0, len(text)) and is_from_to(given[0], 0, given[1])
    if kind == "mirror":
        return len(given) == 0
    if kind == "add":
        return len(given) == 1 and isinstance(given[0], Sum)
    return kind == "drop" and len(given) == 1 and is_from_to(given[0], 0, many - 1)


def _done(text, sums, deed):
    """Return the text and the sums behind a deed."""
    if deed[0] == "put":
        return text[:deed[1]] + deed[2] + text[deed[1]:], sums
    if deed[0] == "take":
        return text[:deed[1]] + text[deed[2]:], sums
    if deed[0] == "mirror":
        return text[::-1], sums
    if deed[0] == "add":
        return text, sums + [deed[1]]
    return text, sums[:deed[1]] + sums[deed[1] + 1:]


def _need_from_to(number, low, high):
    """Refuse what is no whole number of at least low and at most high."""
    if not is_from_to(number, low, high):
        raise InvalidNumber(number)


def _rises(total, front, back, letters, size):
    """Return by how much the worth rises with each word of at most so many letters put between two texts, in order."""
    words = [word for word, _ in total.terms()]
    fronts, backs = part_counts(words, front), part_counts(words, back)
    numbers = {}
    for word, number in total.terms():
        for low in range(len(word)):
            for high in range(low + 1, min(low + size, len(word)) + 1):
                # This part of the word is read in what is put in, the rest ahead of it and behind it.
                part = word[low:high]
                numbers[part] = numbers.get(part, 0) + number * fronts[word[:low]] * backs[word[high:]]
    return row_of_levels(worth_levels(levels_of_numbers(numbers, letters, size), len(letters)))
