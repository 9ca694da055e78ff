"""Rows and tables of whole numbers, as lists."""


def taken(row, table):
    """Return the sum of the rows of a table, each taken as often as a row of numbers says."""
    found = [0] * (len(table[0]) if table else 0)
    for number, own in zip(row, table):
        if number != 0:
            found = [have + number * more for have, more in zip(found, own)]
    return found


def dot(one, other):
    """Return the sum of the products of the numbers at the same places."""
    return sum([number * own for number, own in zip(one, other)])


def given_by(table, column):
    """Return what each row of a table gives with a column."""
    return [dot(row, column) for row in table]


def table_after(first, second):
    """Return the table that does to a row what first and then second do."""
    return [taken(row, second) for row in first]


def unit_table(size):
    """Return the table that leaves rows of so many numbers as they are."""
    return [[1 if at == place else 0 for place in range(size)] for at in range(size)]


def side_by_side(one, other):
    """Return the table that does to the front of a row what one does, and to the rest what the other one does."""
    front = [row + [0] * len(other) for row in one]
    return front + [[0] * len(one) + row for row in other]


def turned(table):
    """Return a table with rows and columns exchanged, for one that is as wide as it is high."""
    return [[row[place] for row in table] for place in range(len(table))]


def copied(table):
    """Return a new list of new lists with the same items."""
    return [list(row) for row in table]
