"""Sums read from lines."""

from skipcounts.errors import InvalidLines, TooLong
from skipcounts.sums import Sum
from skipcounts.texts import is_letter

MOST_IN_WORD = 12
MOST_SIGNS = 2000
FIGURES = "0123456789"
# What a line has come to behind a sign; it may end where all is told or behind a word.
BEGIN = 0
ALL_TOLD = 1
SIGN = 2
ZERO = 3
NUMBER = 4
IN_WORD = 5
BEHIND_WORD = 6
BLANK = 7


def sum_of_line(line):
    """Return the sum of the terms of a loose line."""
    if not isinstance(line, str):
        raise InvalidLines(line)
    size, stage = _read_through(line)
    if size < len(line) or (stage != ALL_TOLD and stage != BEHIND_WORD):
        raise InvalidLines(line)
    terms = []
    if stage == BEHIND_WORD:
        for term in line.split(" "):
            figures, _, word = term[:-1].partition("[")
            if len(word) > MOST_IN_WORD:
                raise TooLong(len(word))
            terms.append((word, int(figures)))
    return Sum(terms)


def right_part(line):
    """Return the longest beginning of a string with which some loose line begins."""
    if not isinstance(line, str) or len(line) > MOST_SIGNS:
        raise InvalidLines(line)
    return line[:_read_through(line)[0]]


def _read_through(line):
    """Return how many signs of a string can begin a loose line, and to what it has come behind them."""
    stage = BEGIN
    for at, sign in enumerate(line):
        after = _stage_behind(stage, sign)
        if after is None:
            return at, stage
        stage = after
    return len(line), stage


def _stage_behind(stage, sign):
    """Return to what a line comes with one more sign, None if no loose line goes on so."""
    if stage == BEGIN or stage == BLANK:
        if sign == "+" or sign == "-":
            return SIGN
        return ALL_TOLD if stage == BEGIN and sign == "0" else None
    if stage == SIGN and sign == "0":
        return ZERO
    if (stage == SIGN or stage == NUMBER) and sign in FIGURES:
        return NUMBER
    if (stage == ZERO or stage == NUMBER) and sign == "[":
        return IN_WORD
    if stage == IN_WORD:
        if sign == "]":
            return BEHIND_WORD
        return IN_WORD if is_letter(sign) else None
    return BLANK if stage == BEHIND_WORD and sign == " " else None
