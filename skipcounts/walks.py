"""Walks: the first texts whose rows of numbers make those of all texts.

A walk begins at the empty text with a row of numbers, and each letter takes the row by its table; a finite machine
tells the states on the way. A text is kept if it leads to a state, all of its lesser beginnings are kept, and the kept
texts ahead that lead to the same state do not make its row. If some number is not 0 at a text, then also at a kept
text that is not behind it, whenever this number is made of the row of a text alike for all texts of a state.
"""

from skipcounts.linear import taken
from skipcounts.spans import RestSpan, Span


def kept_walk(letters, moves, start, tables):
    """Return the tuples (text, state, row) of all kept texts, in the order of texts."""
    return _walk(letters, moves, start, tables, [Span(len(start)) for _ in moves], None)


def kept_walk_by(letters, moves, start, tables, by):
    """Return the same for rows of rests by a number, and texts ahead that are taken whole numbers of times."""
    spans = [RestSpan(by, len(start)) for _ in moves]
    return _walk(letters, moves, [number % by for number in start], tables, spans, by)


def _walk(letters, moves, start, tables, spans, by):
    """Return what is kept if each state has a span that tells whether a row is new to it."""
    if not spans[0].puts(start):
        return []
    found = [("", 0, start)]
    at = 0
    while at < len(found):
        text, state, row = found[at]
        for place, letter in enumerate(letters):
            move = moves[state][place]
            if move is not None:
                after = taken(row, tables[place])
                if by is not None:
                    after = [number % by for number in after]
                if spans[move].puts(after):
                    found.append((text + letter, move, after))
        at = at + 1
    return found


def moves_and_ends(letters, finite):
    """Return the moves and the ends of a finite machine; for None those of one that lets all texts."""
    if finite is None:
        return [[0] * len(letters)], [0]
    return finite.moves(), finite.ends()
