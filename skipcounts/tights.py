"""Tight machines, and the least machines that they lead to.

A tight machine has as many registers as its rows need: what the registers hold at the ends of texts makes, if each is
taken a whole number of times, all lists of so many whole numbers.
"""

from skipcounts.lattices import Lattice, sparse, stairs_of, taken_in
from skipcounts.linear import given_by, taken, unit_table
from skipcounts.registers import Machine
from skipcounts.spans import Span


def tight_machine(machine):
    """Return a tight machine that tells the same as a machine."""
    tables = machine.tables()
    lattice = Lattice()
    rest = [sparse(machine.start())]
    while rest:
        left = lattice.puts(rest.pop())
        if left:
            rest.extend([sparse_taken(left, table) for table in tables])
    stairs = lattice.stairs()
    own = [[taken_in(stairs, sparse_taken(stair, table)) for stair in stairs] for table in tables]
    start = taken_in(stairs, sparse(machine.start()))
    out = [sum([number * machine.out()[place] for place, number in stair.items()]) for stair in stairs]
    return Machine(machine.letters(), start, own, out)


def kept_columns(letters, tables, out):
    """Return the texts whose columns are not made of those of texts ahead, in order, with these columns.

    A column has for each register the worth at the text if at first only this register holds something, namely 1.
    """
    span = Span(len(out))
    found = [("", out)] if span.puts(out) else []
    level = found
    while level:
        longer = []
        for letter, table in zip(letters, tables):
            for text, column in level:
                after = given_by(table, column)
                if span.puts(after):
                    longer.append((letter + text, after))
        found = found + longer
        level = longer
    return found


def least_of_tight(machine):
    """Return the least machine and the basis, for a tight machine."""
    letters, tables = machine.letters(), machine.tables()
    columns = [column for _, column in kept_columns(letters, tables, machine.out())]
    many = len(columns)
    # Behind each row of worths stands how often the registers are taken in it, so that the stairs tell this, too.
    worths = [[column[at] for column in columns] for at in range(len(machine.start()))]
    rows = [sparse(row + unit) for row, unit in zip(worths, unit_table(len(worths)))]
    stairs = [stair for stair in stairs_of(rows) if min(list(stair)) < many]
    basis = [[stair.get(place, 0) for place in range(many)] for stair in stairs]
    shares = [[stair.get(many + at, 0) for at in range(len(worths))] for stair in stairs]
    steps = [sparse(row) for row in basis]
    own = []
    for table in tables:
        own.append([taken_in(steps, sparse(taken(taken(share, table), worths))) for share in shares])
    start = taken_in(steps, sparse(taken(machine.start(), worths)))
    return Machine(letters, start, own, [row[0] for row in basis]), basis


def sparse_taken(row, table):
    """Return what a row leads to by a table; both rows are dicts of places with numbers that are not 0."""
    found = {}
    for at, number in row.items():
        for place, own in enumerate(table[at]):
            if own != 0:
                found[place] = found.get(place, 0) + number * own
    return {place: number for place, number in found.items() if number != 0}
