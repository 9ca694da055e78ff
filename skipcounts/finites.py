"""Finite machines: which texts they let."""

from skipcounts.errors import InvalidFinite, InvalidList, Unlike
from skipcounts.linear import copied
from skipcounts.registers import Machine, need_few, need_machine, tables_of
from skipcounts.texts import need_letters, need_text_over
from skipcounts.wholes import is_from_to

MOST_STATES = 600


class Finite:
    """A finite machine over an alphabet."""

    def __init__(self, letters, moves, ends):
        need_letters(letters)
        if not _are_moves(moves, len(letters)):
            raise InvalidList(moves)
        if not _are_ends(ends, len(moves)):
            raise InvalidList(ends)
        self._letters = letters
        self._moves = copied(moves)
        self._ends = list(ends)

    def letters(self):
        """Return the alphabet."""
        return self._letters

    def moves(self):
        """Return to which state each letter leads from each state, None for none."""
        return copied(self._moves)

    def ends(self):
        """Return the states to which the texts of the machine lead."""
        return list(self._ends)

    def __eq__(self, other):
        return (isinstance(other, Finite) and self._letters == other._letters and self._moves == other._moves
                and self._ends == other._ends)


def lets(finite, text):
    """Return whether a text is a text of a finite machine."""
    need_finite(finite)
    need_text_over(finite.letters(), text)
    return led_from(finite.letters(), finite.moves(), 0, text) in finite.ends()


def machine_within(machine, finite):
    """Return a register machine with the worths of a machine at the texts of a finite machine and 0 at all others."""
    need_machine(machine)
    need_finite(finite)
    if finite.letters() != machine.letters():
        raise Unlike(finite)
    size, moves, ends = len(machine.start()), finite.moves(), finite.ends()
    many = size * len(moves)
    need_few(many)
    own = tables_of(machine)
    tables = []
    for at, letter in enumerate(machine.letters()):
        table = []
        for move in [row[at] for row in moves]:
            for row in own[letter]:
                table.append([0] * many if move is None else _put_at(row, move, many))
        tables.append(table)
    out = []
    for state in range(len(moves)):
        out.extend(machine.out() if state in ends else [0] * size)
    return Machine(machine.letters(), _put_at(machine.start(), 0, many), tables, out)


def need_finite(finite):
    """Refuse what is no finite machine."""
    if not isinstance(finite, Finite):
        raise InvalidFinite(finite)


def led_from(letters, moves, state, text):
    """Return the state to which a text leads from a state, None if it leads to none."""
    reached = state
    for sign in text:
        if reached is None:
            return None
        reached = moves[reached][letters.index(sign)]
    return reached


def _put_at(row, state, many):
    """Return a row of so many numbers with the given ones in the registers of a state."""
    found = [0] * (state * len(row)) + row
    return found + [0] * (many - len(found))


def _are_moves(value, many):
    """Return whether a value is a list of 1 to 600 lists with a state or None for each of so many letters."""
    if not isinstance(value, list) or not 1 <= len(value) <= MOST_STATES:
        return False
    for row in value:
        if not isinstance(row, list) or len(row) != many:
            return False
        if not all([move is None or is_from_to(move, 0, len(value) - 1) for move in row]):
            return False
    return True


def _are_ends(value, many):
    """Return whether a value is an ascending list of numbers of so many states, each once."""
    if not isinstance(value, list) or not all([is_from_to(state, 0, many - 1) for state in value]):
        return False
    return all([ahead < behind for ahead, behind in zip(value, value[1:])])
