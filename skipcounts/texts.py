"""Texts, alphabets and the order of texts."""

from skipcounts.errors import InvalidLetters, InvalidNumber, InvalidText, InvalidWord, TooLong, TooMany
from skipcounts.wholes import greatest_exponent, is_count, is_from_to, raised

MOST_IN_ALPHABET = 4
MOST_IN_TEXT = 300
MOST_TEXTS = 2000


def is_text(value):
    """Return whether a value is a text: a string of small letters, perhaps empty."""
    if not isinstance(value, str):
        return False
    return value == "" or (value.isascii() and value.isalpha() and value.islower())


def is_alphabet(value):
    """Return whether a value is an alphabet: 1 to 4 letters, each once, in order."""
    if not is_text(value) or not 1 <= len(value) <= MOST_IN_ALPHABET:
        return False
    return list(value) == sorted(set(value))


def is_over(letters, value):
    """Return whether a value is a text over an alphabet."""
    need_letters(letters)
    return stands_over(letters, value)


def is_ahead(one, other):
    """Return whether one text is ahead of another one in the order of texts."""
    need_text(one)
    need_text(other)
    return (len(one), one) < (len(other), other)


def text_number(letters, text):
    """Return how many texts over an alphabet are ahead of a text over it."""
    need_letters(letters)
    need_text_over(letters, text)
    return number_of_text(letters, text)


def text_numbered(letters, number):
    """Return the text over an alphabet that has so many texts over it ahead of it."""
    need_letters(letters)
    if not is_count(number):
        raise InvalidNumber(number)
    size = size_of_numbered(len(letters), number)
    if size > MOST_IN_TEXT:
        raise TooLong(size)
    signs = []
    left = number
    while left > 0:
        left = left - 1
        signs.append(letters[left % len(letters)])
        left = left // len(letters)
    return "".join(signs[::-1])


def texts_of(letters, size):
    """Return all texts over an alphabet with just so many letters, in order."""
    need_letters(letters)
    if not is_from_to(size, 0, MOST_IN_TEXT):
        raise InvalidNumber(size)
    many = raised(len(letters), size)
    if many > MOST_TEXTS:
        raise TooMany(many)
    return words_of_size(letters, size)


def is_letter(value):
    """Return whether a value is one of the 26 letters."""
    return is_text(value) and len(value) == 1


def stands_over(letters, value):
    """Return whether a value is a text that has no letter outside a string of letters."""
    return is_text(value) and all([sign in letters for sign in value])


def number_of_text(letters, text):
    """Return what text_number returns, for letters and a text that are known to be right."""
    found = 0
    for sign in text:
        found = found * len(letters) + letters.index(sign) + 1
    return found


def size_of_numbered(many, number):
    """Return the number of letters of the text with a number, over so many letters."""
    if many == 1:
        return number
    return greatest_exponent(many, number * (many - 1) + 1)


def words_of_size(letters, size):
    """Return all words over some letters with just so many letters, in order."""
    words = [""]
    for _ in range(size):
        words = [word + letter for word in words for letter in letters]
    return words


def words_up_to(letters, depth):
    """Return all words over some letters with at most depth letters, in the order of texts."""
    found = []
    words = [""]
    for _ in range(depth + 1):
        found.extend(words)
        words = [word + letter for word in words for letter in letters]
    return found


def in_order(words):
    """Return the list of some words in the order of texts."""
    return sorted(sorted(words), key=len)


def letters_in(words):
    """Return the letters of some words, in order, as a string; there may be up to 26 of them."""
    return "".join(sorted(set([sign for word in words for sign in word])))


def need_letters(letters):
    """Refuse what is no alphabet."""
    if not is_alphabet(letters):
        raise InvalidLetters(letters)


def need_text(text):
    """Refuse what is no text, where a text is read in."""
    if not is_text(text):
        raise InvalidText(text)


def need_text_over(letters, text):
    """Refuse what is no text over an alphabet, where a text is read in."""
    if not stands_over(letters, text):
        raise InvalidText(text)


def need_word(word):
    """Refuse what is no text, where a word is read."""
    if not is_text(word):
        raise InvalidWord(word)
