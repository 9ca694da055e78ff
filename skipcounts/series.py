"""Levels joined, and sums of the powers of levels that have 0 at the empty word."""


def joined_levels(one, other):
    """Return the levels whose number at a word is the sum over all cuts of it of the products of both numbers."""
    found = []
    for size in range(len(one)):
        # Words with the same beginning stand side by side, so these products are in the order of the words.
        rows = [[number * end for number in one[cut] for end in other[size - cut]] for cut in range(size + 1)]
        found.append([sum(column) for column in zip(*rows)])
    return found


def rest_powers(levels):
    """Return the levels joined 0, 1, 2 .. times with themselves after their number at the empty word was made 0.

    There are as many powers as levels: the next one would be 0 everywhere.
    """
    rest = [[0]] + levels[1:]
    powers = [[[1]] + [[0] * len(level) for level in levels[1:]]]
    while len(powers) < len(levels):
        powers.append(joined_levels(powers[-1], rest))
    return powers


def made_of_powers(powers, shares):
    """Return what powers of levels make, each taken so many times."""
    found = []
    for size in range(len(powers[0])):
        rows = [[share * number for number in power[size]] for power, share in zip(powers, shares)]
        found.append([sum(column) for column in zip(*rows)])
    return found


def levels_divided(levels, by):
    """Return levels divided by a number, None if it does not divide all their numbers."""
    found = []
    for level in levels:
        if any([number % by != 0 for number in level]):
            return None
        found.append([number // by for number in level])
    return found
