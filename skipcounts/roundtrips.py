"""What comes back if a text is taken again and again, in finite machines whose letters lead from each state to one."""

from skipcounts.wholes import bezout


def is_power_of(prime, number):
    """Return whether a number of at least 1 is a power of a prime number."""
    left = number
    while left % prime == 0:
        left = left // prime
    return left == 1


def first_and_turn(letters, moves, told, texts):
    """Return what is told behind a head, a part taken 0, 1, 2 .. times and an end: the first ones, and the turn."""
    head, part, end = texts
    state = _led(letters, moves, 0, head)
    seen = {}
    found = []
    while state not in seen:
        seen[state] = len(found)
        found.append(told[_led(letters, moves, state, end)])
        state = _led(letters, moves, state, part)
    first, turn = found[:seen[state]], found[seen[state]:]
    turn = turn[:_least_turn(turn)]
    while first and first[-1] == turn[-1]:
        turn = [first.pop()] + turn[:-1]
    return first, turn


def vanishes_by(moves, told, prime):
    """Return whether the rests by a prime number of the numbers of all long words are 0, for the texts from all states.

    To a word belong the rests of its numbers, a row with one for each state; a letter ahead of it takes the row to
    another one. The rows of all words, and of those with more and more letters, are fewer and fewer, or stay.
    """
    span = _spread(moves, [[rest % prime for rest in told]], prime)
    while span:
        behind = _stairs_by([row for own in span for row in _letters_ahead(moves, own, prime)], prime)
        if len(behind) == len(span):
            return False
        span = behind
    return True


def bar_of(letters, moves, told, prime):
    """Return a bar for a least machine that no sum tells by a prime number."""
    for place, letter in enumerate(letters):
        reached = {row[place]: True for row in moves}
        for state in range(len(moves)):
            if state not in reached:
                # The letter never comes back to this state, but to another one again and again.
                other = _coming_back(moves, place, state)
                return text_between(letters, moves, 0, state), letter, parting_end(letters, moves, told, state, other)
    return _bar_of_turns(letters, moves, told, prime)


def _bar_of_turns(letters, moves, told, prime):
    """Return the same where every letter leads unlike states to unlike ones."""
    rest = [("", list(range(len(moves))))]
    seen = {tuple(rest[0][1]): True}
    at = 0
    while at < len(rest):
        part, lead = rest[at]
        at = at + 1
        for state, turn in enumerate(_turns(lead)):
            if not is_power_of(prime, turn):
                many = 1
                while turn % (many * prime) == 0:
                    many = many * prime
                other = _led(letters, moves, state, part * many)
                return text_between(letters, moves, 0, state), part, parting_end(letters, moves, told, state, other)
        for place, letter in enumerate(letters):
            after = [moves[state][place] for state in lead]
            if tuple(after) not in seen:
                seen[tuple(after)] = True
                rest.append((part + letter, after))
    return None


def _turns(lead):
    """Return for each state how often it has to be led on to come back."""
    found = []
    for state in range(len(lead)):
        turn, reached = 1, lead[state]
        while reached != state:
            turn, reached = turn + 1, lead[reached]
        found.append(turn)
    return found


def _coming_back(moves, place, state):
    """Return the state to which a letter leads from a state if it is taken any multiple of some number of times."""
    path = [state]
    while moves[path[-1]][place] not in path:
        path.append(moves[path[-1]][place])
    ahead = path.index(moves[path[-1]][place])
    turn = len(path) - ahead
    # So many whole turns pass the states ahead of those that come back.
    reached = state
    for _ in range(turn * (ahead // turn + 1)):
        reached = moves[reached][place]
    return reached


def text_between(letters, moves, state, other):
    """Return the first text that leads from a state to another one."""
    texts = {state: ""}
    rest = [state]
    at = 0
    while other not in texts:
        own = rest[at]
        at = at + 1
        for letter, move in zip(letters, moves[own]):
            if move not in texts:
                texts[move] = texts[own] + letter
                rest.append(move)
    return texts[other]


def parting_end(letters, moves, told, state, other):
    """Return the first text behind which something else is told from a state than from another one."""
    texts = {(state, other): ""}
    rest = [(state, other)]
    at = 0
    while told[rest[at][0]] == told[rest[at][1]]:
        one, two = rest[at]
        at = at + 1
        for letter, move, other_move in zip(letters, moves[one], moves[two]):
            if (move, other_move) not in texts:
                texts[(move, other_move)] = texts[(one, two)] + letter
                rest.append((move, other_move))
    return texts[rest[at]]


def _led(letters, moves, state, text):
    """Return the state to which a text leads from a state."""
    reached = state
    for sign in text:
        reached = moves[reached][letters.index(sign)]
    return reached


def _least_turn(row):
    """Return the least number of items that come again and again in a row, whole at its end."""
    for many in range(1, len(row)):
        if len(row) % many == 0 and row[many:] == row[:len(row) - many]:
            return many
    return len(row)


def _letters_ahead(moves, row, prime):
    """Return the rows of a word with each letter ahead of it, for the row of the word."""
    return [[(row[own[place]] - rest) % prime for own, rest in zip(moves, row)] for place in range(len(moves[0]))]


def _spread(moves, rows, prime):
    """Return stairs of rests that make the rows and all to which letters lead them."""
    stairs = []
    rest = list(rows)
    while rest:
        left = _left_by(stairs, rest.pop(), prime)
        if any(left):
            stairs.append(_upright(left, prime))
            rest.extend(_letters_ahead(moves, left, prime))
    return [row for _, row in stairs]


def _stairs_by(rows, prime):
    """Return stairs of rests by a prime number that make just what some rows make."""
    stairs = []
    for row in rows:
        left = _left_by(stairs, row, prime)
        if any(left):
            stairs.append(_upright(left, prime))
    return [row for _, row in stairs]


def _left_by(stairs, row, prime):
    """Return what is left of a row if each stair takes away the number at its place."""
    left = row
    for place, stair in stairs:
        own = left[place]
        if own != 0:
            left = [(number - own * less) % prime for number, less in zip(left, stair)]
    return left


def _upright(row, prime):
    """Return the first place of a row with a number, and the row taken so often that this is 1."""
    place = 0
    while row[place] == 0:
        place = place + 1
    _, share, _ = bezout(row[place], prime)
    return place, [number * share % prime for number in row]
