"""The states of a finite machine that texts of it meet, and those from which and to which a text leads round about."""


def useful_moves(finite):
    """Return the moves of a finite machine, with None for those to states from which no end is reached."""
    moves, ends = finite.moves(), finite.ends()
    useful = {state: True for state in ends}
    is_new = True
    while is_new:
        is_new = False
        for state, row in enumerate(moves):
            if state not in useful and any([move in useful for move in row]):
                useful[state] = True
                is_new = True
    return [[move if move in useful else None for move in row] for row in moves]


def circles_of(letters, moves):
    """Return the circles of states that are reached from the first one.

    A circle is a dict of states that lead to each other, perhaps a single one; to each belong a text that leads from
    the least of them to it, the empty text for this one itself, and a text that leads back.
    """
    found = []
    done = {}
    for state in _texts_from(letters, moves, 0):
        if state not in done:
            circle = _circle_of(letters, moves, state)
            for own in circle:
                done[own] = True
            found.append(circle)
    return found


def _circle_of(letters, moves, state):
    """Return the circle of a state."""
    texts = {own: _texts_from(letters, moves, own) for own in _texts_from(letters, moves, state)}
    own_states = sorted([own for own in texts if state in texts[own]])
    root = own_states[0]
    return {own: (texts[root][own], texts[own][root]) for own in own_states}


def _texts_from(letters, moves, state):
    """Return the dict of all states to which a state leads, with the first text that does, itself ahead of all."""
    found = {state: ""}
    rest = [state]
    while rest:
        after = []
        for own in rest:
            for letter, move in zip(letters, moves[own]):
                if move is not None and move not in found:
                    found[move] = found[own] + letter
                    after.append(move)
        rest = after
    return found
