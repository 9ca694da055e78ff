"""Least finite machines: the fewest states for given moves and what is told at each state.

In this file moves have no None: each letter leads from each state to a state.
"""


def full_moves(finite):
    """Return the moves of a finite machine and the marks of its states, with a state more for texts that lead to none.

    The mark is 1 for an end and 0 for others.
    """
    moves, ends = finite.moves(), finite.ends()
    none = len(moves)
    full = [[none if move is None else move for move in row] for row in moves]
    full.append([none] * len(finite.letters()))
    marks = [0] * len(full)
    for state in ends:
        marks[state] = 1
    return full, marks


def least_finite(finite):
    """Return the moves and marks of the least machine of the set of texts of a finite machine."""
    moves, marks = full_moves(finite)
    return least_of(moves, marks)


def least_of(moves, told):
    """Return the moves and what is told for the least machine that tells the same at all texts.

    Its states are numbered in the order of the first texts that lead to them.
    """
    moves, told = _reached_part(moves, told)
    kinds = _numbered(told)
    many = 0
    while len(set(kinds)) > many:
        many = len(set(kinds))
        kinds = _numbered([(kinds[state], tuple([kinds[move] for move in row])) for state, row in enumerate(moves)])
    # States of one kind tell the same at all texts; the first one of each kind stands for all.
    firsts = {}
    for state, kind in enumerate(kinds):
        firsts.setdefault(kind, state)
    states = list(firsts.values())
    return [[kinds[move] for move in moves[state]] for state in states], [told[state] for state in states]


def _reached_part(moves, told):
    """Return the same without the states to which no text leads, numbered in the order of the first texts."""
    numbers = {0: 0}
    states = [0]
    at = 0
    while at < len(states):
        for move in moves[states[at]]:
            if move not in numbers:
                numbers[move] = len(states)
                states.append(move)
        at = at + 1
    return [[numbers[after] for after in moves[state]] for state in states], [told[state] for state in states]


def _numbered(items):
    """Return for each item the number of its kind: equal items have one, in the order in which they first stand."""
    numbers = {}
    found = []
    for item in items:
        if item not in numbers:
            numbers[item] = len(numbers)
        found.append(numbers[item])
    return found
