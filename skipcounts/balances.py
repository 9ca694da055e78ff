"""Which sums of several register machines are 0 at every text of a finite machine."""

from skipcounts.errors import InvalidList, Unlike
from skipcounts.lattices import sparse, stairs_that_vanish
from skipcounts.linear import dot, side_by_side
from skipcounts.partings import need_finite_like
from skipcounts.registers import need_machine
from skipcounts.spans import Span
from skipcounts.walks import kept_walk, moves_and_ends
from skipcounts.wholes import is_whole_list

MOST_MACHINES = 8


def deciding_texts(machines, finite=None):
    """Return the texts of a finite machine whose worths are not made of those of texts ahead."""
    _need_machines(machines)
    need_finite_like(finite, machines[0])
    return [text for text, _ in _decisions(machines, finite)]


def balances(machines, finite=None):
    """Return the stair list that makes all lists of numbers for which the sum of the worths is always 0."""
    _need_machines(machines)
    need_finite_like(finite, machines[0])
    many = len(machines)
    equations = [sparse(worths) for _, worths in _decisions(machines, finite)]
    return [[stair.get(at, 0) for at in range(many)] for stair in stairs_that_vanish(equations, many)]


def is_balance(machines, numbers, finite=None):
    """Return whether a value is a list of numbers for which the sum of the worths is always 0."""
    _need_machines(machines)
    need_finite_like(finite, machines[0])
    if not is_whole_list(numbers) or len(numbers) != len(machines):
        return False
    return all([dot(numbers, worths) == 0 for _, worths in _decisions(machines, finite)])


def _need_machines(machines):
    """Refuse what is no list of 1 to 8 machines over one alphabet."""
    if not isinstance(machines, list) or not 1 <= len(machines) <= MOST_MACHINES:
        raise InvalidList(machines)
    for machine in machines:
        need_machine(machine)
    for machine in machines:
        if machine.letters() != machines[0].letters():
            raise Unlike(machine)


def _decisions(machines, finite):
    """Return the deciding texts with the lists of the worths there."""
    letters = machines[0].letters()
    moves, ends = moves_and_ends(letters, finite)
    start = []
    tables = [[] for _ in letters]
    for machine in machines:
        start.extend(machine.start())
        tables = [side_by_side(first, second) for first, second in zip(tables, machine.tables())]
    span = Span(len(machines))
    found = []
    for text, state, row in kept_walk(letters, moves, start, tables):
        if state in ends:
            worths = _worths(machines, row)
            if span.puts(worths):
                found.append((text, worths))
    return found


def _worths(machines, row):
    """Return the worths of machines whose registers, one machine behind the other, hold a row."""
    found = []
    place = 0
    for machine in machines:
        out = machine.out()
        found.append(dot(row[place:place + len(out)], out))
        place = place + len(out)
    return found
