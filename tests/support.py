"""What several tests use: plain listing, values of all kinds, and a way to tell an error."""

import itertools
import random
import re
import time
import unittest
from fractions import Fraction

from skipcounts.book import Book
from skipcounts.errors import InvalidText
from skipcounts.finites import Finite
from skipcounts.kepttexts import Kept
from skipcounts.registers import Machine
from skipcounts.sums import Sum
from skipcounts.tables import Table

BIG = 10 ** 30 - 1
ALL_LETTERS = "abcdefghijklmnopqrstuvwxyz"


def all_words(letters, depth):
    """All words of at most depth letters, in the order of texts."""
    return ["".join(signs) for size in range(depth + 1) for signs in itertools.product(letters, repeat=size)]


def all_readings(word, text):
    """All readings, in order, by going through all choices of places."""
    choices = itertools.combinations(range(len(text)), len(word))
    return [places for places in choices if "".join(text[place] for place in places) == word]


def plain_count(word, text):
    return len(all_readings(word, text))


def plain_worth(total, text):
    return sum(number * plain_count(word, text) for word, number in total.terms())


def covering_pairs(one, other, word):
    """How many pairs of readings of two words in a third one have all of its places between them."""
    every = set(range(len(word)))
    return sum(set(first) | set(second) == every
               for first in all_readings(one, word) for second in all_readings(other, word))


def plain_primes(letters, size):
    """The prime words, by the definition."""
    return [word for word in all_words(letters, size)
            if word and all(word < word[cut:] for cut in range(1, len(word)))]


def plain_joined(letters, depth, one, other):
    """The numbers of two lists of numbers for all words, joined by all cuts of each word."""
    words = all_words(letters, depth)
    first, second = dict(zip(words, one)), dict(zip(words, other))
    return [sum(first[word[:cut]] * second[word[cut:]] for cut in range(len(word) + 1)) for word in words]


def text_key(text):
    return (len(text), text)


def plain_rank(rows):
    """How many of some rows are not made of the others by fractions."""
    left = [[Fraction(number) for number in row] for row in rows]
    found = 0
    while left:
        row = left.pop()
        place = next((at for at, number in enumerate(row) if number), None)
        if place is not None:
            found += 1
            left = [[number - own[place] / row[place] * less for number, less in zip(own, row)] for own in left]
    return found


def is_made(rows, row):
    """Whether a row is made of others by fractions."""
    return plain_rank(rows + [row]) == plain_rank(rows)


def plain_stairs(rows):
    """The stair list of all sums of rows of whole numbers, by taking rows away from each other again and again."""
    left = [list(row) for row in rows if any(row)]
    found = []
    for place in range(len(rows[0]) if rows else 0):
        while sum(row[place] != 0 for row in left) > 1:
            low = min((row for row in left if row[place]), key=lambda row: abs(row[place]))
            for row in left:
                if row is not low:
                    times = row[place] // low[place]
                    for at in range(len(row)):
                        row[at] -= times * low[at]
        for row in [row for row in left if row[place]]:
            left.remove(row)
            row = row if row[place] > 0 else [-number for number in row]
            for ahead in found:
                times = ahead[place] // row[place]
                for at in range(len(row)):
                    ahead[at] -= times * row[at]
            found.append(row)
    return found


def plain_held(machine, text):
    """What the registers hold at the end of a text, register by register, letter by letter."""
    registers = machine.start()
    for sign in text:
        table = machine.tables()[machine.letters().index(sign)]
        registers = [sum(table[i][j] * registers[i] for i in range(len(registers))) for j in range(len(registers))]
    return registers


def plain_machine_worth(machine, text):
    return sum(number * own for number, own in zip(plain_held(machine, text), machine.out()))


def plain_state(finite, text):
    """The state to which a text leads, None if to none."""
    state = 0
    for sign in text:
        if state is not None:
            state = finite.moves()[state][finite.letters().index(sign)]
    return state


def plain_lets(finite, text):
    return finite is None or plain_state(finite, text) in finite.ends()


def some_machine(chance, letters, size, most=2):
    def row():
        return [chance.randint(-most, most) for _ in range(size)]
    return Machine(letters, row(), [[row() for _ in range(size)] for _ in letters], row())


def some_finite(chance, letters, states, gaps=0.2):
    moves = [[None if chance.random() < gaps else chance.randrange(states) for _ in letters] for _ in range(states)]
    return Finite(letters, moves, [state for state in range(states) if chance.random() < 0.6])


def some_text(chance, letters, size):
    return "".join(chance.choice(letters) for _ in range(size))


def some_sum(chance, letters, many, depth, most=5):
    """A sum of so many terms, some of which may fall together."""
    terms = []
    for _ in range(many):
        terms.append((some_text(chance, letters, chance.randint(0, depth)), chance.randint(-most, most)))
    return Sum(terms)


def chance(seed):
    return random.Random(seed)


def any_values():
    """Values of all kinds that may be handed in anywhere."""
    deep = []
    for _ in range(28):
        deep = [deep]
    return [
        None, True, False, 0, 1, 2, -1, 7, 13, 41, 10 ** 29, -10 ** 29,
        "", "a", "b", "ab", "ba", "aa", "abc", "abcde", "A", "aB", "a b", "a1", "1", "+1[a]", "a\n",
        [], ["a"], ["a", "b"], [0], [1], [1, 0], [1, 2, 3], [True], [1, True, 1], [None], [[]], [("a", 1)],
        [("a", True)], [("a",)], [("a", 1, 1)], [("A", 1)], [["a", 1]], [(1, "a")], [("a", "b")], [("b", "a")],
        [("a", "")], [("ab", "a")], [("b", ""), ("a", "")], [("a", ""), ("a", "")], [("a", Sum([]))],
        [("a", 1, 2)], [("a", 2, 4)], [("a", 0, 1)], [("a", 1, 0)], [("a", 1, -1)], deep,
        (), ("a",), ("a", 1), ("a", "b"), (0,), (0, 1), (1, 0), (0, 0), (0, True), (-1, 0), (0, 9), ("0", "1"),
        {}, {"a": 1}, {"": 0}, {"a": []}, {0: 1},
        Sum([]), Sum([("a", 1)]), Sum([("", 2), ("ab", -1)]), InvalidText("a"),
        Table("a", 0, [1]), Table("ab", 1, [1, 2, -3]), [Table("a", 0, [1])], [Sum([])], ("a", Sum([])),
        Machine("ab", [1], [[[1]], [[2]]], [3]), Machine("a", [], [[]], []), Finite("ab", [[0, None]], [0]),
        Finite("a", [[0]], []), [Machine("a", [1], [[[1]]], [1])], [Finite("a", [[0]], [])], [[0, 1]], [[None]],
        Kept([]), Kept([("ab", 2)]), [Kept([])], [(Kept([("a", 1)]), 1)], [("a", (0, 1))], [("a", (0, 1, 2))],
        [("a", [0, 1])], [((1,), 1)], [((1,), 0)], [((1, 1), 1)], ("ring", "", "a", "a", ""),
        ("pair", "", "a", "b", "ab", ""), ["", "a", "ab"],
        ("reads", "ab"), ("not", ("reads", "A")), ("and", []), ("or", [("reads", "a"), None]), [["a"]], [["a"], ["aa"]],
        [["a", "ab"]], ("is", "a", 1), ("is", "a", 21), ("least", "", 1), ("rest", Sum([("a", 1)]), 2, 2),
        ("and", ("is", "a", 1), None), "+1[a", "+01[a]", "0 ", "++", ("put", 0, "A"), ("mirror",), ("drop", 9),
        ("mirror", 1), Book("ab", [Sum([("a", 1)])]), [Book("", [])],
        ([], []), ([[]], []), ([[]], [([0], [(1, 1)])]), ("", "a", ""), ([0], [1]), [(2, [[1], [0]], [0, 1])],
    ]


def is_plain_whole(value):
    return type(value) is int


def is_plain_text(value):
    return type(value) is str and re.fullmatch("[a-z]*", value) is not None and not value.endswith("\n")


def is_plain_letters(value):
    return is_plain_text(value) and 1 <= len(value) <= 4 and "".join(sorted(set(value))) == value


def is_plain_over(letters):
    return lambda value: is_plain_text(value) and set(value) <= set(letters)


def is_plain_from_to(low, high):
    return lambda value: is_plain_whole(value) and low <= value <= high


def is_plain_sum(value):
    return type(value) is Sum


class TestCase(unittest.TestCase):
    """A test that can tell errors and times."""

    def refuses(self, error, value, call, *arguments, **named):
        """The call raises just this error, with this very value in its field."""
        try:
            found = call(*arguments, **named)
        except ValueError as raised:
            self.assertIs(type(raised), error, (call, arguments, named))
            self.assertIs(raised.value, value)
            return
        self.fail((call, arguments, named, found))

    def refuses_number(self, error, number, call, *arguments):
        """The call raises just this error, with a number equal to this one in its field."""
        try:
            found = call(*arguments)
        except ValueError as raised:
            self.assertIs(type(raised), error, (call, arguments))
            self.assertIs(type(raised.value), int)
            self.assertEqual(raised.value, number)
            return
        self.fail((call, arguments, found))

    def in_seconds(self, call, *arguments, seconds=10):
        """The call ends within seconds; its result is returned."""
        start = time.monotonic()
        found = call(*arguments)
        self.assertLess(time.monotonic() - start, seconds, call)
        return found
