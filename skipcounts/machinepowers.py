"""Where two register machines part if a text is taken again and again."""

from skipcounts.linear import dot, given_by, table_after, taken, unit_table
from skipcounts.registers import held, need_like_machines, tables_of
from skipcounts.texts import need_text_over


def parting_power(one, other, head, text, behind):
    """Return how often a text is taken between two others when machines part for the first time, None if never."""
    need_like_machines(one, other)
    for part in [head, text, behind]:
        need_text_over(one.letters(), part)
    one_worths, other_worths = _steps(one, head, text, behind), _steps(other, head, text, behind)
    one_row, one_table, one_column = one_worths
    other_row, other_table, other_column = other_worths
    for many in range(len(one_row) + len(other_row)):
        if dot(one_row, one_column) != dot(other_row, other_column):
            return many
        one_row, other_row = taken(one_row, one_table), taken(other_row, other_table)
    return None


def _steps(machine, head, text, behind):
    """Return what a machine holds behind the head, the table of the text, and what each register is worth then."""
    tables = tables_of(machine)
    table = unit_table(len(machine.start()))
    for sign in text:
        table = table_after(table, tables[sign])
    column = machine.out()
    for sign in behind[::-1]:
        column = given_by(tables[sign], column)
    return held(machine, head), table, column
