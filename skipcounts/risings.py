"""Worths of a sum on the texts of a finite machine: finitely many, or a text that is taken again and again to rise."""

from skipcounts.circles import circles_of, useful_moves
from skipcounts.finites import led_from, need_finite
from skipcounts.linear import dot, given_by, taken
from skipcounts.registers import tables_of
from skipcounts.spans import Span
from skipcounts.sums import need_sum, within
from skipcounts.sumtights import tight_for_sum
from skipcounts.texts import stands_over
from skipcounts.walks import kept_walk


def worths_on(finite, total):
    """Return the worths of a sum on the texts of a finite machine with the first text of each, None if endless."""
    need_finite(finite)
    need_sum(total)
    tight = tight_for_sum(finite.letters(), total)
    if _rising(finite, tight) is not None:
        return None
    letters, tables, ends = finite.letters(), tight.tables(), finite.ends()
    moves = useful_moves(finite)
    columns = [[column for _, column in rows] for rows in _end_columns(finite, tight)]
    found = {}
    seen = {}
    texts = [("", 0, tight.start())]
    at = 0
    # Texts that lead to one state and have there the same worth with every text behind them need not both go on.
    while at < len(texts):
        text, state, row = texts[at]
        at = at + 1
        key = (state, tuple([dot(row, column) for column in columns[state]]))
        if key in seen:
            continue
        seen[key] = True
        if state in ends:
            found.setdefault(dot(row, tight.out()), text)
        for place, letter in enumerate(letters):
            move = moves[state][place]
            if move is not None:
                texts.append((text + letter, move, taken(row, tables[place])))
    return list(found.items())


def rising(finite, total):
    """Return texts of which the middle one, taken again and again, makes the worths unlike; None if there are none."""
    need_finite(finite)
    need_sum(total)
    return _rising(finite, tight_for_sum(finite.letters(), total))


def is_rising(finite, total, value):
    """Return whether a value are texts of which the middle one, taken again and again, makes the worths unlike."""
    need_finite(finite)
    need_sum(total)
    letters = finite.letters()
    tight = tight_for_sum(letters, total)
    if not isinstance(value, tuple) or len(value) != 3 or not all([stands_over(letters, part) for part in value]):
        return False
    head, part, behind = value
    moves, ends = finite.moves(), finite.ends()
    state = led_from(letters, moves, 0, head)
    # As many times as there are states lead to a state that was met already, if they lead to one at all.
    for _ in range(len(moves) + 1):
        if state is None or led_from(letters, moves, state, behind) not in ends:
            return False
        state = led_from(letters, moves, state, part)
    worths = _worths_again(tight, value, within(total, letters).degree())
    return any([worth != worths[0] for worth in worths])


def _worths_again(tight, value, degree):
    """Return the worths with the middle one of three texts taken 0, 1, .. times, up to the degree.

    The worths are the values of a row of binomials with no more items, so more of them tell nothing new.
    """
    head, part, behind = value
    tables = tables_of(tight)
    column = tight.out()
    for sign in behind[::-1]:
        column = given_by(tables[sign], column)
    row = tight.start()
    for sign in head:
        row = taken(row, tables[sign])
    found = [dot(row, column)]
    for _ in range(degree):
        for sign in part:
            row = taken(row, tables[sign])
        found.append(dot(row, column))
    return found


def _rising(finite, tight):
    """Return a rising for the worths of a tight machine on a finite one, None if there is none."""
    moves = useful_moves(finite)
    heads = [[] for _ in moves]
    for text, state, row in kept_walk(finite.letters(), moves, tight.start(), tight.tables()):
        heads[state].append((text, row))
    ends = _end_columns(finite, tight)
    for circle in circles_of(finite.letters(), moves):
        found = _rising_round(finite, tight, circle, heads, ends)
        if found is not None:
            return found
    return None


def _rising_round(finite, tight, circle, heads, ends):
    """Return a rising whose middle text leads round about within a circle of states, None if there is none.

    A circle is a dict of its states with a text from its first state, the root, to each, and one back.
    There is none exactly if all ways from the root to a state within the circle are worth the same. For if they are,
    the worths with a text again and again are the same once the root was met, and as values of a row of binomials,
    which they are, they are the same ahead of it, too.
    """
    tables = tables_of(tight)
    root = min(list(circle))
    at_states = {}
    for state, (way, _) in circle.items():
        at_states[state] = [_behind(row, tables, way) for _, row in heads[root]]
    for state, (way, _) in circle.items():
        for letter, move in zip(finite.letters(), finite.moves()[state]):
            if move in circle:
                unlike = _unlike([taken(row, tables[letter]) for row in at_states[state]], at_states[move], ends[move])
                if unlike is not None:
                    head, end = heads[root][unlike[0]], ends[move][unlike[1]]
                    return _rising_of_two(tight, head, way + letter, circle[move], end)
    return None


def _rising_of_two(tight, head, way, other, end):
    """Return a rising, where two ways from the root to a state are worth unlike numbers."""
    tables = tables_of(tight)
    other_way, back = other
    first = _behind(head[1], tables, way)
    if dot(first, end[1]) != dot(_behind(first, tables, back + other_way), end[1]):
        return head[0] + way, back + other_way, end[0]
    return head[0], way + back, other_way + end[0]


def _behind(row, tables, text):
    """Return what registers hold behind a text."""
    reached = row
    for sign in text:
        reached = taken(reached, tables[sign])
    return reached


def _unlike(rows, others, ends):
    """Return the places of a row and an end at which the row and the other row are worth unlike numbers, or None."""
    for at, (row, other) in enumerate(zip(rows, others)):
        change = [number - own for number, own in zip(row, other)]
        if any(change):
            for place, (_, column) in enumerate(ends):
                if dot(change, column) != 0:
                    return at, place
    return None


def _end_columns(finite, tight):
    """Return for each state the tuples (text, column) of texts to an end whose columns make those of all others."""
    letters, tables = finite.letters(), tight.tables()
    moves = useful_moves(finite)
    leading = [[] for _ in moves]
    for state, row in enumerate(moves):
        for place, move in enumerate(row):
            if move is not None:
                leading[move].append((state, place))
    spans = [Span(len(tight.out())) for _ in moves]
    found = [[] for _ in moves]
    rest = [("", state, tight.out()) for state in finite.ends()]
    at = 0
    while at < len(rest):
        text, state, column = rest[at]
        at = at + 1
        if spans[state].puts(column):
            found[state].append((text, column))
            for ahead, place in leading[state]:
                rest.append((letters[place] + text, ahead, given_by(tables[place], column)))
    return found
