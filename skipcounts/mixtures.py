"""The words that the product of the counts of two words is made of."""


def mixture(one, other):
    """Return the dict of words with their numbers in the product of the counts of two words.

    The number of a word tells how many pairs there are of a reading of one and one of other in it that have all of
    its places between them.
    """
    row = [{other[:size]: 1} for size in range(len(other) + 1)]
    for at, letter in enumerate(one):
        after = [{one[:at + 1]: 1}]
        for place, sign in enumerate(other):
            made = {}
            _add_behind(made, row[place + 1], letter)
            _add_behind(made, after[place], sign)
            if letter == sign:
                # Both readings may end at the same place.
                _add_behind(made, row[place], letter)
            after.append(made)
        row = after
    return row[-1]


def _add_behind(made, numbers, letter):
    """Add numbers to those of a dict, each at its word with a letter behind it."""
    for word, number in numbers.items():
        longer = word + letter
        made[longer] = made.get(longer, 0) + number
