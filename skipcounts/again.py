"""Rules of letters that are done again and again: worths far on, and where two sums part."""

from math import gcd, lcm

from skipcounts.binomials import row_of_values, value_of_row
from skipcounts.errors import InvalidList, InvalidNumber, InvalidRules
from skipcounts.linear import dot, taken
from skipcounts.recurrences import far_value, next_value
from skipcounts.rules import images_of, led, need_rules
from skipcounts.spans import Span, shares_of
from skipcounts.sums import letters_of, need_sum, numbers_of, plus, sum_of_numbers, times
from skipcounts.texts import letters_in, need_text, words_up_to
from skipcounts.trees import beginning_counts
from skipcounts.walks import kept_walk
from skipcounts.wholes import is_count, is_from_to, is_whole

MOST_CHOICES = 3
# Each stands for an item of choices in a row, which is kept as a string.
SIGNS = "012"


def worth_again(total, rules, text, many, by=None):
    """Return the worth of a sum at a text after rules were done so many times, perhaps its rest by a number."""
    need_sum(total)
    need_rules(rules)
    need_text(text)
    if not is_count(many):
        raise InvalidNumber(many)
    if by is not None and (not is_whole(by) or by < 1):
        raise InvalidNumber(by)
    row, sums = _row_and_sums(total, rules)
    return far_value(row, [own.worth(text) for own in sums], many, by)


def again_row(total, rules):
    """Return the shortest list that tells how often a sum led fewer times is taken in the sum led again."""
    need_sum(total)
    need_rules(rules)
    row, _ = _row_and_sums(total, rules)
    return row


def parting_again(one, other, rules, text):
    """Return after how many times two sums have different worths for the first time, None if they never have."""
    need_sum(one)
    need_sum(other)
    need_rules(rules)
    need_text(text)
    _, sums = _row_and_sums(plus(one, times(-1, other)), rules)
    for many, own in enumerate(sums):
        if own.worth(text) != 0:
            return many
    return None


def parting_row(one, other, choices, text):
    """Return the first row of choices after which two sums have different worths at a text, None if none."""
    need_sum(one)
    need_sum(other)
    _need_choices(choices)
    need_text(text)
    total = plus(one, times(-1, other))
    words = _words(total, choices, text)
    out = [numbers_of(total).get(word, 0) for word in words]
    for row, _, counts in _walk(words, choices, text):
        if dot(counts, out) != 0:
            return _numbers(row)
    return None


def zero_paper(total, choices, text):
    """Return what tells that the worth of a sum is 0 after every row of choices, None if it is not."""
    need_sum(total)
    _need_choices(choices)
    need_text(text)
    words = _words(total, choices, text)
    out = [numbers_of(total).get(word, 0) for word in words]
    walk = _walk(words, choices, text)
    if any([dot(counts, out) != 0 for _, _, counts in walk]):
        return None
    kept = {row: counts for row, _, counts in walk}
    tables = _tables(words, choices)
    behind = [(row, sign) for row in kept for sign in _signs(choices) if row + sign not in kept]
    targets = [taken(kept[row], tables[int(sign)]) for row, sign in behind]
    shares, by = shares_of([counts for _, _, counts in walk], targets)
    papers = []
    for (row, sign), share in zip(behind, shares):
        papers.append((_numbers(row + sign), [_reduced(number, by) for number in share]))
    return [_numbers(row) for row in kept], papers


def is_zero_paper(total, choices, text, value):
    """Return whether a value is a paper that tells that the worth of a sum is 0 after every row of choices."""
    need_sum(total)
    _need_choices(choices)
    need_text(text)
    if not isinstance(value, tuple) or len(value) != 2 or not _are_rows(value[0], len(choices)):
        return False
    rows = ["".join([str(number) for number in row]) for row in value[0]]
    if not _are_closed(rows) or not _are_shares(value[1], rows, choices):
        return False
    words = _words(total, choices, text)
    tables = _tables(words, choices)
    out = [numbers_of(total).get(word, 0) for word in words]
    kept = {}
    for row in rows:
        kept[row] = _counts(words, text) if row == "" else taken(kept[row[:-1]], tables[int(row[-1])])
        if dot(kept[row], out) != 0:
            return False
    for numbers, fractions in value[1]:
        row = "".join([str(number) for number in numbers])
        if not _is_made(taken(kept[row[:-1]], tables[int(row[-1])]), fractions, [kept[own] for own in rows]):
            return False
    return True


def rules_growth(rules):
    """Return how texts grow by rules that are done again and again, with the first letter or the period."""
    need_rules(rules)
    images = images_of(rules)
    period = 1
    for letter in images:
        # A letter's circle: the letters to which it leads and which lead back to it.
        circle = [own for own in images if own in _reached(images, letter) and letter in _reached(images, own)]
        places = len([sign for own in circle for sign in images[own] if sign in circle])
        if places > len(circle):
            return "powers", letter
        if circle:
            period = lcm(period, len(circle))
    return "rows", period


def again_since(total, rules, text, rest):
    """Return from when on, and with which row of binomials, the worths after rest + period * n times go on."""
    need_sum(total)
    need_rules(rules)
    kind, period = rules_growth(rules)
    if kind == "powers":
        raise InvalidRules(rules)
    need_text(text)
    if not is_from_to(rest, 0, period - 1):
        raise InvalidNumber(rest)
    row, sums = _row_and_sums(total, rules)
    many = len(row)
    values = [own.worth(text) for own in sums]
    while len(values) < rest + period * 2 * many + 1:
        values.append(next_value(row, values))
    values = values[rest::period]
    # From many on the values are those of one row with at most so many items; it may begin earlier.
    found = row_of_values(values[many:2 * many])
    since = many
    while since > 0 and value_of_row(found, since - 1 - many) == values[since - 1]:
        since = since - 1
    return since, row_of_values([value_of_row(found, since - many + at) for at in range(many)])


def _row_and_sums(total, rules):
    """Return the row of again_row, and the sum led so many times and fewer, as many as the row has items."""
    letters = letters_in([letters_of(total)] + [letter + image for letter, image in rules])
    words = words_up_to(letters, max(total.degree(), 0))
    span = Span(len(words))
    rows = []
    sums = []
    after = total
    row = _dense(after, words)
    while span.puts(row):
        sums.append(after)
        rows.append(row)
        after = led(after, rules)
        row = _dense(after, words)
    shares, by = shares_of(rows, [row])
    return [number // by for number in shares[0]], sums


def _dense(total, words):
    """Return the list of the numbers of a sum at some words."""
    numbers = numbers_of(total)
    return [numbers.get(word, 0) for word in words]


def _need_choices(choices):
    """Refuse what is no list of 1 to 3 rules."""
    if not isinstance(choices, list) or not 1 <= len(choices) <= MOST_CHOICES:
        raise InvalidList(choices)
    for rules in choices:
        need_rules(rules)


def _words(total, choices, text):
    """Return the words over the letters of a call with at most as many letters as the degree of its sum."""
    parts = [letters_of(total), text] + [letter + image for rules in choices for letter, image in rules]
    return words_up_to(letters_in(parts), max(total.degree(), 0))


def _counts(words, text):
    """Return the counts of some words in a text."""
    found = beginning_counts(words, text)
    return [found[word] for word in words]


def _tables(words, choices):
    """Return, for each of some rules, the table that takes the counts of words in a text to those behind the rules."""
    places = {word: at for at, word in enumerate(words)}
    found = []
    for rules in choices:
        table = [[0] * len(words) for _ in words]
        for at, word in enumerate(words):
            for own, number in led(sum_of_numbers({word: 1}), rules).terms():
                table[places[own]][at] = number
        found.append(table)
    return found


def _signs(choices):
    """Return the signs that stand for the items of choices in a row: their numbers."""
    return SIGNS[:len(choices)]


def _walk(words, choices, text):
    """Return the rows whose counts are not made of those of rows ahead, as strings, with these counts."""
    moves = [[0] * len(choices)]
    return kept_walk(_signs(choices), moves, _counts(words, text), _tables(words, choices))


def _numbers(row):
    """Return the list of the numbers of a row that is a string."""
    return [int(sign) for sign in row]


def _reduced(number, by):
    """Return a fraction in lowest terms with a number above 0 by which it is divided."""
    least = gcd(number, by) if by > 0 else -gcd(number, by)
    return number // least, by // least


def _are_rows(value, many):
    """Return whether a value is a list of lists of numbers of so many choices."""
    if not isinstance(value, list):
        return False
    for row in value:
        if not isinstance(row, list) or not all([is_from_to(number, 0, many - 1) for number in row]):
            return False
    return True


def _are_closed(rows):
    """Return whether rows stand in order, none twice, the empty one first, and each one without its last number."""
    if not rows or rows[0] != "":
        return False
    for ahead, behind in zip(rows, rows[1:]):
        if (len(ahead), ahead) >= (len(behind), behind):
            return False
    kept = {row: True for row in rows}
    return all([row == "" or row[:-1] in kept for row in rows])


def _are_shares(value, rows, choices):
    """Return whether a value is a list of the rows that have to be told, in order, with fractions for the rows."""
    kept = {row: True for row in rows}
    needed = [_numbers(row + sign) for row in rows for sign in _signs(choices) if row + sign not in kept]
    if not isinstance(value, list) or len(value) != len(needed):
        return False
    for item, row in zip(value, needed):
        if not isinstance(item, tuple) or len(item) != 2 or not _are_rows([item[0]], len(choices)) or item[0] != row:
            return False
        if not isinstance(item[1], list) or len(item[1]) != len(rows):
            return False
        if not all([_is_fraction(fraction) for fraction in item[1]]):
            return False
    return True


def _is_fraction(value):
    """Return whether a value is a fraction in lowest terms."""
    if not isinstance(value, tuple) or len(value) != 2 or not is_whole(value[0]) or not is_whole(value[1]):
        return False
    return value[1] >= 1 and gcd(value[0], value[1]) == 1


def _is_made(counts, fractions, rows):
    """Return whether counts are the sum of fractions times those of some rows."""
    by = 1
    for _, own in fractions:
        by = lcm(by, own)
    made = [0] * len(counts)
    for (number, own), row in zip(fractions, rows):
        times_row = by // own * number
        made = [have + times_row * more for have, more in zip(made, row)]
    return made == [by * number for number in counts]


def _reached(images, letter):
    """Return the letters to which a letter leads in one step or more."""
    found = []
    rest = list(images.get(letter, ""))
    while rest:
        sign = rest.pop()
        if sign not in found:
            found.append(sign)
            rest.extend(list(images.get(sign, "")))
    return found
