"""Whole numbers: what is one, and the sums, powers and divisors that the package needs."""


def is_whole(value):
    """Return whether a value is a whole number; a Boolean is none."""
    return isinstance(value, int) and not isinstance(value, bool)


def is_count(value):
    """Return whether a value is a whole number of at least 0."""
    return is_whole(value) and value >= 0


def is_from_to(value, low, high):
    """Return whether a value is a whole number of at least low and at most high."""
    return is_whole(value) and low <= value <= high


def is_whole_list(value):
    """Return whether a value is a list of whole numbers."""
    return isinstance(value, list) and all([is_whole(item) for item in value])


def raised(base, exponent):
    """Return the power of a number with a count as its exponent."""
    found = 1
    square = base
    left = exponent
    while left > 0:
        if left & 1:
            found = found * square
        left = left >> 1
        if left > 0:
            square = square * square
    return found


def greatest_exponent(base, number):
    """Return the greatest exponent with which base, at least 2, has a power of at most number, at least 1."""
    # Squares first, so that a number of very many figures takes few products.
    squares = []
    square = base
    while square <= number:
        squares.append(square)
        square = square * square
    exponent = 0
    reached = 1
    for at in reversed(range(len(squares))):
        if reached * squares[at] <= number:
            reached = reached * squares[at]
            exponent = exponent + (1 << at)
    return exponent


def how_many_words(many, depth):
    """Return how many words of at most depth letters there are over so many letters."""
    found = 0
    of_size = 1
    for _ in range(depth + 1):
        found = found + of_size
        of_size = of_size * many
    return found


def choose(number, many):
    """Return number * (number - 1) * .. with many factors, divided by 1 * 2 * .. * many; number may be below 0."""
    found = 1
    for at in range(many):
        found = found * (number - at) // (at + 1)
    return found


def bezout(one, other):
    """Return the greatest common divisor of two numbers and how often each is taken in it."""
    low, high = one, other
    low_share, high_share = (1, 0), (0, 1)
    while high != 0:
        times = low // high
        low, high = high, low - times * high
        after = (low_share[0] - times * high_share[0], low_share[1] - times * high_share[1])
        low_share, high_share = high_share, after
    if low < 0:
        return -low, -low_share[0], -low_share[1]
    return low, low_share[0], low_share[1]
