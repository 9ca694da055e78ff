"""Register machines that are told back from their worths at short texts."""

from skipcounts.errors import InvalidList, InvalidNumber, TooMany
from skipcounts.lattices import Lattice, sparse, taken_in
from skipcounts.linear import taken
from skipcounts.registers import Machine, machine_worth
from skipcounts.spans import Span, shares_of
from skipcounts.texts import need_letters, words_up_to
from skipcounts.tights import least_of_tight
from skipcounts.wholes import how_many_words, is_from_to, is_whole_list

MOST_RANK = 6
MOST_TEXTS = 1500


def machine_from(letters, most, values):
    """Return the least machine of at most this rank with these worths at all short texts, None if there is none."""
    need_letters(letters)
    if not is_from_to(most, 1, MOST_RANK):
        raise InvalidNumber(most)
    many = how_many_words(len(letters), 2 * most - 1)
    if many > MOST_TEXTS:
        raise TooMany(many)
    if not is_whole_list(values) or len(values) != many:
        raise InvalidList(values)
    worths = {text: value for text, value in zip(words_up_to(letters, 2 * most - 1), values)}
    tight = _tight(letters, most, worths)
    if tight is None:
        return None
    found, _ = least_of_tight(tight)
    for text, value in worths.items():
        if machine_worth(found, text) != value:
            return None
    return found


def _tight(letters, most, worths):
    """Return a tight machine that has the worths if any machine has them, None if surely none has."""
    texts = words_up_to(letters, most - 1)
    heads = _kept(texts, [[worths[head + end] for end in texts] for head in texts])
    ends = _kept(texts, [[worths[head + end] for head in texts] for end in texts])
    if len(heads) > most or (ends and ends[0] != ""):
        return None
    rows = [[worths[head + end] for end in ends] for head in heads]
    # How often each row is taken in that of the empty text, and in those of its own text with a letter behind it.
    steps = []
    for letter in letters:
        targets = [[worths[head + letter + end] for end in ends] for head in heads]
        steps.append(shares_of(rows, targets))
    start = [worths[end] for end in ends]
    lattice = Lattice()
    rest = [start]
    while rest:
        left = lattice.puts(sparse(rest.pop()))
        if left:
            for step in steps:
                after = _stepped(rows, step, [left.get(place, 0) for place in range(len(ends))])
                if after is None:
                    return None
                rest.append(after)
    return _machine_of_rows(letters, rows, steps, lattice.stairs(), start)


def _kept(texts, rows):
    """Return the texts whose rows are not made of those ahead."""
    span = Span(len(texts))
    return [text for text, row in zip(texts, rows) if span.puts(row)]


def _stepped(rows, step, row):
    """Return the worths at the ends to which a letter leads a row of such; None if they are no whole numbers."""
    shares, by = shares_of(rows, [row])
    steps, step_by = step
    reached = taken(taken(shares[0], steps), rows)
    if any([number % (by * step_by) != 0 for number in reached]):
        return None
    return [number // (by * step_by) for number in reached]


def _machine_of_rows(letters, rows, steps, stairs, start):
    """Return the machine whose registers tell how often each stair is taken in the worths at the ends."""
    width = len(start)
    dense = [[stair.get(place, 0) for place in range(width)] for stair in stairs]
    tables = [[taken_in(stairs, sparse(_stepped(rows, step, row))) for row in dense] for step in steps]
    return Machine(letters, taken_in(stairs, sparse(start)), tables, [row[0] for row in dense])
