"""Values of which each one is told by those ahead, by one row: the sum of its items, each times one of them."""

from skipcounts.linear import dot


def next_value(row, values):
    """Return the value behind some values, of which the last ones, as many as the row has items, tell it."""
    return dot(row, values[len(values) - len(row):])


def far_value(row, values, number, by):
    """Return the value with a number, or its rest by a number unless this is None, from the first values.

    There are as many first values as the row has items.
    """
    if number < len(values):
        return _rest(values[number], by)
    # The share with an index tells how often the value with this index is taken.
    shares = [1] + [0] * (len(row) - 1)
    for bit in _bits(number):
        shares = _moved_on(_squared(shares), row, by)
        if bit == 1:
            shares = _moved_on([0] + shares, row, by)
    return _rest(dot(shares, values), by)


def _bits(number):
    """Return the binary figures of a number, the greatest first."""
    found = []
    left = number
    while left > 0:
        found.append(left & 1)
        left = left >> 1
    return found[::-1]


def _squared(shares):
    """Return the shares for twice as far a value."""
    found = [0] * (2 * len(shares))
    for at, number in enumerate(shares):
        if number != 0:
            for place, own in enumerate(shares):
                found[at + place] = found[at + place] + number * own
    return found


def _moved_on(shares, row, by):
    """Return shares of the first values alone, from shares of values further on, too."""
    found = [_rest(number, by) for number in shares]
    while len(found) > len(row):
        last = found.pop()
        start = len(found) - len(row)
        for at, number in enumerate(row):
            found[start + at] = _rest(found[start + at] + last * number, by)
    return found


def _rest(number, by):
    """Return the rest of a number by another one, the number itself for None."""
    return number if by is None else number % by
