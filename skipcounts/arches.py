"""Arches: parts of a text that have all letters, and the forms that there are to a depth."""

from skipcounts.errors import InvalidNumber, TooMany
from skipcounts.leastforms import form_of, is_form
from skipcounts.readatall import need_depth, numbers_read
from skipcounts.texts import need_letters, need_text_over
from skipcounts.wholes import is_count, raised

MOST_FORMS = 600


def arches(letters, text):
    """Return the arches of a text and the rest, which lacks a letter."""
    need_letters(letters)
    need_text_over(letters, text)
    found = []
    start = 0
    for end in range(1, len(text) + 1):
        if all([letter in text[start:end] for letter in letters]):
            found.append(text[start:end])
            start = end
    return found, text[start:]


def missing(letters, text):
    """Return the number of letters of the shortest texts that are not read in a text, and how many they are."""
    need_letters(letters)
    need_text_over(letters, text)
    size = len(arches(letters, text)[0]) + 1
    numbers = numbers_read(size, text)
    of_size = numbers[size] if size < len(numbers) else 0
    return size, raised(len(letters), size) - of_size


def how_many_forms(letters, depth):
    """Return how many texts over an alphabet are their own least forms to a depth."""
    need_letters(letters)
    need_depth(depth)
    return len(forms_to(letters, depth))


def form_numbered(letters, depth, number):
    """Return the form that has so many ahead of it in the order of texts."""
    need_letters(letters)
    need_depth(depth)
    forms = forms_to(letters, depth)
    if not is_count(number) or number >= len(forms):
        raise InvalidNumber(number)
    return forms[number]


def form_number(letters, depth, text):
    """Return how many forms are ahead of the least form of a text."""
    need_letters(letters)
    need_depth(depth)
    forms = forms_to(letters, depth)
    need_text_over(letters, text)
    return forms.index(form_of(depth, text))


def forms_to(letters, depth):
    """Return all forms to a depth, in the order of texts."""
    found = [""]
    at = 0
    # A beginning of a form is a form, too: else what stands for it would make the whole less.
    while at < len(found):
        longer = [found[at] + letter for letter in letters]
        found.extend([text for text in longer if is_form(depth, text)])
        if len(found) > MOST_FORMS:
            raise TooMany(MOST_FORMS + 1)
        at = at + 1
    return found
