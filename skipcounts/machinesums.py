"""Register machines and sums: which machines tell one, and the least machine for each."""

from skipcounts.errors import InvalidWord
from skipcounts.linear import dot, taken
from skipcounts.registers import need_machine
from skipcounts.spans import Span
from skipcounts.sums import need_sum, sum_of_numbers
from skipcounts.sumtights import tight_for_sum
from skipcounts.texts import need_letters, stands_over
from skipcounts.tights import least_of_tight, tight_machine


def machine_number(machine, word):
    """Return the number of a machine at a word: how often the count of the word is taken in its worths."""
    need_machine(machine)
    if not stands_over(machine.letters(), word):
        raise InvalidWord(word)
    row = machine.start()
    rises = _rises(machine)
    for sign in word:
        row = taken(row, rises[sign])
    return dot(row, machine.out())


def sum_of(machine):
    """Return the sum that a machine tells, None if there is none."""
    need_machine(machine)
    least, _ = least_of_tight(tight_machine(machine))
    if _no_sum_word(least) is not None:
        return None
    rises = _rises(least)
    numbers = {}
    rows = [("", least.start())]
    # In a least machine a row is 0 only if no longer word has a number, either.
    while rows:
        word, row = rows.pop()
        if any(row):
            numbers[word] = dot(row, least.out())
            rows.extend([(word + letter, taken(row, rises[letter])) for letter in least.letters()])
    return sum_of_numbers(numbers)


def no_sum_word(machine):
    """Return the first word, with at least as many letters as the rank, that has a number; None for a sum."""
    need_machine(machine)
    least, _ = least_of_tight(tight_machine(machine))
    return _no_sum_word(least)


def machine_of(letters, total):
    """Return the least machine that has the worth of a sum at every text over an alphabet."""
    need_letters(letters)
    need_sum(total)
    found, _ = least_of_tight(tight_for_sum(letters, total))
    return found


def _no_sum_word(least):
    """Return what no_sum_word returns, for a least machine.

    A word need not be gone on with if words ahead of it, with as many letters, make its row.
    """
    many = len(least.start())
    rises = _rises(least)
    level = [("", least.start())] if many > 0 else []
    size = 0
    while level:
        if size >= many:
            for word, row in level:
                if dot(row, least.out()) != 0:
                    return word
        size = size + 1
        span = Span(many)
        longer = []
        for word, row in level:
            for letter in least.letters():
                after = taken(row, rises[letter])
                if span.puts(after):
                    longer.append((word + letter, after))
        level = longer
    return None


def _rises(machine):
    """Return the dict of the letters of a machine with the tables that tell what each letter adds to a row."""
    found = {}
    for letter, table in zip(machine.letters(), machine.tables()):
        found[letter] = [[number - 1 if at == place else number for place, number in enumerate(row)]
                         for at, row in enumerate(table)]
    return found
