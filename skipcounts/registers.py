"""Register machines: what they hold, their worths, and machines put together."""

from skipcounts.errors import InvalidList, InvalidMachine, InvalidRules, InvalidWord, TooMany, Unlike
from skipcounts.linear import copied, dot, side_by_side, table_after, taken, unit_table
from skipcounts.rules import images_of, is_rules
from skipcounts.texts import need_letters, need_text_over, stands_over
from skipcounts.wholes import is_whole_list

MOST_REGISTERS = 40


class Machine:
    """A register machine over an alphabet."""

    def __init__(self, letters, start, tables, out):
        need_letters(letters)
        if not is_whole_list(start):
            raise InvalidList(start)
        need_few(len(start))
        if not _are_tables(tables, len(letters), len(start)):
            raise InvalidList(tables)
        if not is_whole_list(out) or len(out) != len(start):
            raise InvalidList(out)
        self._letters = letters
        self._start = list(start)
        self._tables = [copied(table) for table in tables]
        self._out = list(out)

    def letters(self):
        """Return the alphabet."""
        return self._letters

    def start(self):
        """Return what the registers hold at first."""
        return list(self._start)

    def tables(self):
        """Return the tables of the letters."""
        return [copied(table) for table in self._tables]

    def out(self):
        """Return how often each register is taken in the worth."""
        return list(self._out)

    def __eq__(self, other):
        return (isinstance(other, Machine) and self._letters == other._letters and self._start == other._start
                and self._tables == other._tables and self._out == other._out)


def machine_worth(machine, text):
    """Return the worth of a machine at a text."""
    need_machine(machine)
    need_text_over(machine.letters(), text)
    return dot(held(machine, text), machine.out())


def counting_machine(letters, word):
    """Return a machine whose worth is the count of a word."""
    need_letters(letters)
    if not stands_over(letters, word):
        raise InvalidWord(word)
    many = len(word) + 1
    need_few(many)
    tables = []
    for letter in letters:
        table = unit_table(many)
        for at, sign in enumerate(word):
            if sign == letter:
                table[at][at + 1] = 1
        tables.append(table)
    return Machine(letters, [1] + [0] * len(word), tables, [0] * len(word) + [1])


def machine_plus(one, other):
    """Return a machine whose worth is the sum of those of two machines."""
    need_like_machines(one, other)
    need_few(len(one.start()) + len(other.start()))
    tables = [side_by_side(first, second) for first, second in zip(one.tables(), other.tables())]
    return Machine(one.letters(), one.start() + other.start(), tables, one.out() + other.out())


def machine_product(one, other):
    """Return a machine whose worth is the product of those of two machines."""
    need_like_machines(one, other)
    need_few(len(one.start()) * len(other.start()))
    tables = []
    for first, second in zip(one.tables(), other.tables()):
        tables.append([_products(row, own) for row in first for own in second])
    return Machine(one.letters(), _products(one.start(), other.start()), tables, _products(one.out(), other.out()))


def machine_led(machine, letters, rules):
    """Return a machine over an alphabet whose worth is that of a machine at the text that rules make."""
    need_machine(machine)
    need_letters(letters)
    if not is_rules(rules):
        raise InvalidRules(rules)
    images = images_of(rules)
    if not all([stands_over(machine.letters(), images.get(letter, letter)) for letter in letters]):
        raise InvalidRules(rules)
    own = tables_of(machine)
    tables = []
    for letter in letters:
        table = unit_table(len(machine.start()))
        for sign in images.get(letter, letter):
            table = table_after(table, own[sign])
        tables.append(table)
    return Machine(letters, machine.start(), tables, machine.out())


def need_machine(machine):
    """Refuse what is no register machine."""
    if not isinstance(machine, Machine):
        raise InvalidMachine(machine)


def need_like_machines(one, other):
    """Refuse what are no two register machines over the same letters."""
    need_machine(one)
    need_machine(other)
    if one.letters() != other.letters():
        raise Unlike(other)


def need_few(many):
    """Refuse a number of registers that no machine has."""
    if many > MOST_REGISTERS:
        raise TooMany(many)


def tables_of(machine):
    """Return the dict of the letters of a machine with their tables."""
    return {letter: table for letter, table in zip(machine.letters(), machine.tables())}


def held(machine, text):
    """Return what the registers of a machine hold at the end of a text over its letters."""
    tables = tables_of(machine)
    row = machine.start()
    for sign in text:
        row = taken(row, tables[sign])
    return row


def _products(one, other):
    """Return all products of a number of one row and one of another, the first row's first."""
    return [number * own for number in one for own in other]


def _are_tables(value, many, size):
    """Return whether a value is a list of so many tables for so many registers."""
    if not isinstance(value, list) or len(value) != many:
        return False
    for table in value:
        if not isinstance(table, list) or len(table) != size:
            return False
        for row in table:
            if not is_whole_list(row) or len(row) != size:
                return False
    return True
