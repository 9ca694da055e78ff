"""Where two register machines part, on all texts or on those of a finite machine, and papers that they do not."""

from math import gcd

from skipcounts.errors import InvalidNumber, Unlike
from skipcounts.finites import led_from, need_finite
from skipcounts.linear import dot, side_by_side, taken
from skipcounts.registers import need_like_machines
from skipcounts.spans import Span
from skipcounts.texts import in_order, stands_over
from skipcounts.walks import kept_walk, kept_walk_by, moves_and_ends
from skipcounts.wholes import is_whole


def parting_text(one, other, finite=None):
    """Return the first text of a finite machine at which two machines have unlike worths, None if there is none."""
    need_like_machines(one, other)
    need_finite_like(finite, one)
    return _first_parting(one, other, finite, _joint_walk(one, other, finite))


def is_agreeing_paper(one, other, finite, value):
    """Return whether a value is a list of texts that tells that two machines agree on a finite machine."""
    need_like_machines(one, other)
    need_finite_like(finite, one)
    letters = one.letters()
    if not isinstance(value, list) or not all([stands_over(letters, text) for text in value]):
        return False
    moves, ends = moves_and_ends(letters, finite)
    start, tables, out = _joint(one, other)
    rows = _rows_at(letters, start, tables, value)
    states = {text: led_from(letters, moves, 0, text) for text in value}
    spans = [Span(len(start)) for _ in moves]
    for text in in_order(value):
        if states[text] is None or (states[text] in ends and dot(rows[text], out) != 0):
            return False
        spans[states[text]].puts(rows[text])
    if not spans[0].has(start):
        return False
    for text in value:
        for place, move in enumerate(moves[states[text]]):
            if move is not None and not spans[move].has(taken(rows[text], tables[place])):
                return False
    return True


def agreeing_paper(one, other, finite=None):
    """Return the least list of texts that tells that two machines agree on a finite machine, None if they part."""
    need_like_machines(one, other)
    need_finite_like(finite, one)
    walk = _joint_walk(one, other, finite)
    if _first_parting(one, other, finite, walk) is not None:
        return None
    return [text for text, _, _ in walk]


def parting_rest(one, other, by, finite=None):
    """Return the first text of a finite machine at which a number does not divide the difference, None if none."""
    need_like_machines(one, other)
    if not is_whole(by) or by < 2:
        raise InvalidNumber(by)
    need_finite_like(finite, one)
    for text, number in _differences_by(one, other, finite, by):
        if number % by != 0:
            return text
    return None


def common_divisor(one, other, finite=None):
    """Return the greatest number that divides all differences on a finite machine, 0 if all are 0."""
    need_like_machines(one, other)
    need_finite_like(finite, one)
    found = 0
    for _, number in _differences(one, other, finite, _joint_walk(one, other, finite)):
        found = gcd(found, number)
    # So far these are the texts of which fractions make all others; their rests by what was found tell the rest.
    if found > 1:
        for _, number in _differences_by(one, other, finite, found):
            found = gcd(found, number)
    return found


def need_finite_like(finite, machine):
    """Refuse what is neither None nor a finite machine over the letters of a machine."""
    if finite is not None:
        need_finite(finite)
        if finite.letters() != machine.letters():
            raise Unlike(finite)


def _joint(one, other):
    """Return the joint list of the empty text, the tables of both machines, and what tells the difference."""
    tables = [side_by_side(first, second) for first, second in zip(one.tables(), other.tables())]
    return one.start() + other.start(), tables, one.out() + [-number for number in other.out()]


def _joint_walk(one, other, finite):
    """Return what a walk over the joint lists keeps."""
    moves, _ = moves_and_ends(one.letters(), finite)
    start, tables, _ = _joint(one, other)
    return kept_walk(one.letters(), moves, start, tables)


def _differences(one, other, finite, walk):
    """Return the texts of a finite machine that a walk has kept, with what is told of the difference there."""
    _, ends = moves_and_ends(one.letters(), finite)
    _, _, out = _joint(one, other)
    return [(text, dot(row, out)) for text, state, row in walk if state in ends]


def _differences_by(one, other, finite, by):
    """Return the same for a walk by rests; the numbers have the same rests as the differences."""
    moves, _ = moves_and_ends(one.letters(), finite)
    start, tables, _ = _joint(one, other)
    return _differences(one, other, finite, kept_walk_by(one.letters(), moves, start, tables, by))


def _first_parting(one, other, finite, walk):
    """Return the first text of a walk at which two machines part, None if there is none."""
    for text, number in _differences(one, other, finite, walk):
        if number != 0:
            return text
    return None


def _rows_at(letters, start, tables, texts):
    """Return the dict of some texts with their rows; each is worked out from the longest beginning that is one."""
    rows = {}
    for text in in_order(texts):
        size = len(text)
        while size > 0 and text[:size] not in rows:
            size = size - 1
        row = rows.get(text[:size], start)
        for sign in text[size:]:
            row = taken(row, tables[letters.index(sign)])
        rows[text] = row
    return rows
