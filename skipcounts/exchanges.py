"""Which texts can stand in the place of others, for a sum."""

from skipcounts.errors import InvalidList, InvalidNumber, TooMany
from skipcounts.lattices import stairs_of, stairs_that_vanish
from skipcounts.sums import Sum, need_sum, numbers_of
from skipcounts.texts import in_order, need_letters, need_text, stands_over, words_up_to
from skipcounts.trees import beginning_counts, part_counts
from skipcounts.wholes import how_many_words, is_from_to

MOST_DEPTH = 39
MOST_WORDS = 40


def changes(total, one, other):
    """Return None if a text can stand in the place of another one, otherwise the first texts around that tell."""
    need_sum(total)
    need_text(one)
    need_text(other)
    words = [word for word, _ in total.terms()]
    counts_in_one, counts_in_other = part_counts(words, one), part_counts(words, other)
    found = {}
    for word, number in total.terms():
        for front, part, back in _cuts(word):
            gap = number * (counts_in_one[part] - counts_in_other[part])
            if gap != 0:
                found[front, back] = found.get((front, back), 0) + gap
    return _first_pair([pair for pair, gap in found.items() if gap != 0])


def inner(total):
    """Return the least list of sums that tells what a sum sees of a part of a text."""
    need_sum(total)
    terms = total.terms()
    parts = in_order(sorted(set([part for word, _ in terms for _, part, _ in _cuts(word)])))
    places = {part: at for at, part in enumerate(parts)}
    rows = {}
    for word, number in terms:
        for front, part, back in _cuts(word):
            row = rows.setdefault((front, back), {})
            row[places[part]] = number
    # Those with most letters around come first: they have the shortest words, and lessen the others.
    pairs = [pair for _, pair in sorted([(-len(front + back), (front, back)) for front, back in rows])]
    return [_sum_of_row(parts, row) for row in stairs_of([rows[pair] for pair in pairs])]


def turn_parting(total):
    """Return None if two texts may always change their places, otherwise the first two that may not."""
    need_sum(total)
    numbers = numbers_of(total)
    found = []
    for word, number in numbers.items():
        for cut in range(1, len(word)):
            front, back = word[:cut], word[cut:]
            if numbers.get(back + front, 0) != number:
                found.append((front, back))
                found.append((back, front))
    return _first_pair(found)


def kept_sums(letters, depth, pairs):
    """Return the least list of sums that makes all those for which the texts of each pair can be exchanged."""
    need_letters(letters)
    if not is_from_to(depth, 0, MOST_DEPTH):
        raise InvalidNumber(depth)
    many = how_many_words(len(letters), depth)
    if many > MOST_WORDS:
        raise TooMany(many)
    if not _are_pairs(letters, pairs):
        raise InvalidList(pairs)
    words = words_up_to(letters, depth)
    return [_sum_of_row(words, row) for row in stairs_that_vanish(_equations(words, pairs), many)]


def _equations(words, pairs):
    """Return the equations for the numbers of words that hold if the texts of each pair can be exchanged."""
    found = {}
    for one, other in pairs:
        counts_in_one, counts_in_other = beginning_counts(words, one), beginning_counts(words, other)
        rows = {}
        for at, word in enumerate(words):
            for front, part, back in _cuts(word):
                gap = counts_in_one[part] - counts_in_other[part]
                if gap != 0:
                    row = rows.setdefault((front, back), {})
                    row[at] = gap
        for row in rows.values():
            # Of equal equations one is enough; their places ascend, so equal ones have them in the same order.
            found[tuple(row.items())] = True
    return [{at: gap for at, gap in items} for items in found]


def _cuts(word):
    """Return all ways to cut a word into a beginning, a part that is not empty, and an end."""
    size = len(word)
    return [(word[:low], word[low:high], word[high:]) for low in range(size) for high in range(low + 1, size + 1)]


def _first_pair(pairs):
    """Return the pair of texts with the fewest letters, then the first ones, None if there is no pair."""
    if not pairs:
        return None
    ranks = [(len(one) + len(other), len(one), one, len(other), other) for one, other in pairs]
    _, _, one, _, other = min(ranks)
    return one, other


def _sum_of_row(words, row):
    """Return the sum with the numbers of a row, whose places are those of words."""
    return Sum([(words[at], number) for at, number in row.items()])


def _are_pairs(letters, value):
    """Return whether a value is a list of tuples of two texts over an alphabet."""
    if not isinstance(value, list):
        return False
    for item in value:
        if not isinstance(item, tuple) or len(item) != 2:
            return False
        if not stands_over(letters, item[0]) or not stands_over(letters, item[1]):
            return False
    return True
