"""Rows of binomials: sums of the ways to choose 0, 1, 2 and so on of n things, told for all n."""

from skipcounts.errors import InvalidList, InvalidNumber
from skipcounts.wholes import choose, is_count, is_whole_list


def row_value(row, number):
    """Return the value of a row of binomials at a count."""
    need_row(row)
    if not is_count(number):
        raise InvalidNumber(number)
    return value_of_row(row, number)


def binomial_row(values):
    """Return the only row with at most as many items as values whose values at 0, 1 and so on are these."""
    if not is_whole_list(values):
        raise InvalidList(values)
    return row_of_values(values)


def row_product(one, other):
    """Return the row whose value at every count is the product of the values of two rows."""
    need_row(one)
    need_row(other)
    counts = range(len(one) + len(other) - 1)
    return row_of_values([value_of_row(one, count) * value_of_row(other, count) for count in counts])


def signs(row):
    """Return where the value of a row has which sign, as tuples of a start and the sign from there on."""
    need_row(row)
    found = [(0, 0)]
    # What a row goes up by from count to count is the value of the row without its first item, so where this keeps
    # its sign, the row only rises or only falls.
    for size in range(1, len(row) + 1):
        found = _signs_from(row[len(row) - size:], found)
    return found


def need_row(row):
    """Refuse what is no row of binomials."""
    if not is_whole_list(row) or (row and row[-1] == 0):
        raise InvalidList(row)


def value_of_row(row, number):
    """Return the value of a row at a whole number, which may be below 0."""
    return sum([item * choose(number, at) for at, item in enumerate(row)])


def row_of_values(values):
    """Return the row with these values at 0, 1 and so on, for what is known to be a list of whole numbers."""
    found = []
    rest = list(values)
    while rest:
        found.append(rest[0])
        rest = [after - ahead for ahead, after in zip(rest, rest[1:])]
    return trimmed(found)


def trimmed(items):
    """Return the same items without those at the end that are 0."""
    size = len(items)
    while size > 0 and items[size - 1] == 0:
        size = size - 1
    return items[:size]


def _signs_from(row, rises):
    """Return the signs of a row from those of the row by which it rises."""
    factors = _factors(row)
    found = []
    for at, (start, rise) in enumerate(rises):
        end = rises[at + 1][0] if at + 1 < len(rises) else None
        for place in _turns(factors, start, end, rise):
            sign = _sign_at(factors, place)
            if not found or found[-1][1] != sign:
                found.append((place, sign))
    return found


def _turns(factors, start, end, rise):
    """Return the start and the counts ahead of the end at which the sign may become another one."""
    if rise == 0:
        return [start]
    turns = [start]
    for least in [0, 1]:
        place = _first_of_sign(factors, start, end, rise, least)
        if place is not None and place > turns[-1]:
            turns.append(place)
    return turns


def _first_of_sign(factors, start, end, rise, least):
    """Return the first count from start on, ahead of end, with a sign, times rise, of at least this; None if none."""
    low = start
    if rise * _sign_at(factors, low) >= least:
        return low
    high = end
    if high is None:
        step = 1
        while rise * _sign_at(factors, low + step) < least:
            step = step * 2
        high = low + step
    # The sign at low is too low; the one at high is not, or high is the end.
    while high - low > 1:
        middle = (low + high) // 2
        if rise * _sign_at(factors, middle) < least:
            low = middle
        else:
            high = middle
    return None if high == end else high


def _factors(row):
    """Return the items of a row, each times the whole numbers above its index up to the last index."""
    found = []
    times = 1
    for at in reversed(range(len(row))):
        found.append(row[at] * times)
        times = times * at
    return found[::-1]


def _sign_at(factors, number):
    """Return the sign of the value at a count, which is reckoned without fractions."""
    reached = 0
    for at in reversed(range(len(factors))):
        reached = reached * (number - at) + factors[at]
    if reached == 0:
        return 0
    return 1 if reached > 0 else -1
