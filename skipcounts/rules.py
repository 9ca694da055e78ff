"""Rules that replace letters by texts, and sums led by them."""

from skipcounts.errors import InvalidNumber, InvalidRules, TooLong, TooMany
from skipcounts.sums import letters_of, need_sum, sum_of_numbers
from skipcounts.texts import is_letter, is_text, need_text
from skipcounts.trees import part_counts
from skipcounts.wholes import is_from_to

MOST_RULES = 4
MOST_IN_IMAGE = 20
MOST_IN_TEXT = 300
MOST_DEPTH = 4


def done(rules, text):
    """Return the text in which each letter of a text is replaced by its image."""
    need_rules(rules)
    need_text(text)
    images = images_of(rules)
    made = _replaced(images, text)
    if len(made) > MOST_IN_TEXT:
        raise TooLong(len(made))
    return made


def rules_after(first, second):
    """Return the rules that do to each text what first and then second do."""
    need_rules(first)
    need_rules(second)
    first_images, second_images = images_of(first), images_of(second)
    found = []
    for letter in _ruled_letters(first, second):
        image = _replaced(second_images, first_images.get(letter, letter))
        if image != letter:
            found.append((letter, image))
    if len(found) > MOST_RULES:
        raise TooMany(len(found))
    longest = max([len(image) for _, image in found], default=0)
    if longest > MOST_IN_IMAGE:
        raise TooLong(longest)
    return found


def led(total, rules):
    """Return the sum whose worth at each text is that of a sum at the text that rules make of it."""
    need_sum(total)
    need_rules(rules)
    shares = _shares(total, images_of(rules))
    # To each beginning of a word belong the words that letters make whose images are read through it.
    ways = {"": {"": 1}}
    numbers = {}
    for word, number in total.terms():
        for size in range(1, len(word) + 1):
            if word[:size] not in ways:
                ways[word[:size]] = _ways_to(word[:size], ways, shares)
        for made, many in ways[word].items():
            numbers[made] = numbers.get(made, 0) + number * many
    return sum_of_numbers(numbers)


def rules_part(one, other, depth):
    """Return None if two rules lead all sums up to a degree alike, otherwise the first word and letter that tell."""
    need_rules(one)
    need_rules(other)
    if not is_from_to(depth, 0, MOST_DEPTH):
        raise InvalidNumber(depth)
    one_images, other_images = images_of(one), images_of(other)
    found = []
    for letter in _ruled_letters(one, other):
        counts_in_one = _all_counts(one_images.get(letter, letter), depth)
        counts_in_other = _all_counts(other_images.get(letter, letter), depth)
        for word in list(counts_in_one) + list(counts_in_other):
            if counts_in_one.get(word, 0) != counts_in_other.get(word, 0):
                found.append((len(word), word, letter))
    if not found:
        return None
    _, word, letter = min(found)
    return word, letter


def is_rules(value):
    """Return whether a value is a list of rules: letters in order, none twice, each with its image."""
    if not isinstance(value, list) or len(value) > MOST_RULES:
        return False
    last = ""
    for item in value:
        if not isinstance(item, tuple) or len(item) != 2 or not is_letter(item[0]) or item[0] <= last:
            return False
        if not is_text(item[1]) or len(item[1]) > MOST_IN_IMAGE:
            return False
        last = item[0]
    return True


def need_rules(rules):
    """Refuse what are no rules."""
    if not is_rules(rules):
        raise InvalidRules(rules)


def images_of(rules):
    """Return the dict of the letters of rules with their images."""
    return {letter: image for letter, image in rules}


def _replaced(images, text):
    """Return a text with each letter replaced by its image in a dict; one that it has not stays."""
    return "".join([images.get(letter, letter) for letter in text])


def _ruled_letters(one, other):
    """Return the letters that one of two rules has, in order."""
    return sorted(set([letter for letter, _ in one + other]))


def _shares(total, images):
    """Return the dict of all parts of the words of a sum with a list: letters, and the counts in their images."""
    words = [word for word, _ in total.terms()]
    shares = {}
    for letter in sorted(set(list(images) + list(letters_of(total)))):
        for part, many in part_counts(words, images.get(letter, letter)).items():
            if many != 0:
                shares.setdefault(part, []).append((letter, many))
    return shares


def _ways_to(beginning, ways, shares):
    """Return the ways to make a beginning of a word, from those to make the shorter ones and the last part."""
    found = {}
    for cut in range(len(beginning)):
        for letter, many in shares.get(beginning[cut:], []):
            for made, number in ways[beginning[:cut]].items():
                longer = made + letter
                found[longer] = found.get(longer, 0) + number * many
    return found


def _all_counts(text, depth):
    """Return the dict of all words of at most depth letters that are read in a text, with their counts."""
    found = {"": 1}
    for sign in text:
        for word, number in list(found.items()):
            if len(word) < depth:
                found[word + sign] = found.get(word + sign, 0) + number
    return found
