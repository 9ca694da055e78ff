"""Least machines: ranks, tests, rows and bases, and whether the order of letters matters."""

from skipcounts.errors import InvalidText
from skipcounts.linear import dot, taken
from skipcounts.registers import held, need_machine
from skipcounts.texts import stands_over
from skipcounts.tights import kept_columns, least_of_tight, tight_machine
from skipcounts.walks import kept_walk


def rank(machine):
    """Return the fewest registers of a machine that tells the same."""
    need_machine(machine)
    return len(_tests(machine))


def tests(machine):
    """Return the texts whose columns are not made of those of texts ahead, in order."""
    need_machine(machine)
    return _tests(machine)


def row_at(machine, text):
    """Return the worths at a text with each test behind it."""
    need_machine(machine)
    if not stands_over(machine.letters(), text):
        raise InvalidText(text)
    row = held(machine, text)
    letters, tables, out = machine.letters(), machine.tables(), machine.out()
    found = []
    for test in _tests(machine):
        reached = row
        for sign in test:
            reached = taken(reached, tables[letters.index(sign)])
        found.append(dot(reached, out))
    return found


def basis(machine):
    """Return the only stair list that makes just the sums of rows."""
    need_machine(machine)
    _, found = least_of_tight(tight_machine(machine))
    return found


def least_machine(machine):
    """Return the machine with a register for each list of the basis that tells the same."""
    need_machine(machine)
    found, _ = least_of_tight(tight_machine(machine))
    return found


def order_matters(machine):
    """Return the first texts between which two letters may not be exchanged, with these; None if there are none."""
    need_machine(machine)
    letters, tables = machine.letters(), machine.tables()
    heads = kept_walk(letters, [[0] * len(letters)], machine.start(), tables)
    ends = kept_columns(letters, tables, machine.out())
    pairs = [(one, other) for one in range(len(letters)) for other in range(one + 1, len(letters))]
    # For each head, what the exchange of two letters changes in the registers.
    changes = []
    for _, _, row in heads:
        after = [taken(row, table) for table in tables]
        changes.append([_less(taken(after[one], tables[other]), taken(after[other], tables[one]))
                        for one, other in pairs])
    found = []
    for at, (head, _, _) in enumerate(heads):
        for end, column in ends:
            for change, (one, other) in zip(changes[at], pairs):
                if dot(change, column) != 0:
                    found.append((len(head) + len(end), len(head), head, end, letters[one], letters[other]))
    if not found:
        return None
    _, _, head, end, one, other = min(found)
    return head, one, other, end


def _tests(machine):
    """Return the tests of a machine that is known to be one."""
    tight = tight_machine(machine)
    return [text for text, _ in kept_columns(tight.letters(), tight.tables(), tight.out())]


def _less(one, other):
    """Return the differences of the numbers of two rows."""
    return [number - own for number, own in zip(one, other)]
