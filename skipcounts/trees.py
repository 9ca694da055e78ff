"""The counts of many words at once, by their beginnings."""


def beginning_counts(words, signs):
    """Return the dict of all beginnings of some words with their numbers in the table of a signed text.

    For a text these are their counts in it.
    """
    spots = _spots(words)
    steps = _steps(spots)
    numbers = [1] + [0] * (len(spots) - 1)
    for sign in signs:
        small = sign.lower()
        if sign == small:
            for at, ahead in steps.get(small, [])[::-1]:
                numbers[at] = numbers[at] + numbers[ahead]
        else:
            for at, ahead in steps.get(small, []):
                numbers[at] = numbers[at] - numbers[ahead]
    return {beginning: numbers[at] for beginning, at in spots.items()}


def part_counts(words, text):
    """Return the dict of all parts of some words, without gaps, with their counts in a text."""
    return beginning_counts([word[cut:] for word in words for cut in range(len(word) + 1)], text)


def _spots(words):
    """Give each beginning of the words a number; a beginning of another one has the lesser one."""
    spots = {"": 0}
    for word in words:
        for size in range(1, len(word) + 1):
            beginning = word[:size]
            if beginning not in spots:
                spots[beginning] = len(spots)
    return spots


def _steps(spots):
    """Return, for each letter, the beginnings that end with it, and those without it, by their numbers."""
    steps = {}
    for beginning, at in spots.items():
        if beginning != "":
            steps.setdefault(beginning[-1], []).append((at, spots[beginning[:-1]]))
    return steps
