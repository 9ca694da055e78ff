"""Rests of the worths of sums: how they go on from letter to letter, and which texts have them."""

from skipcounts.errors import InvalidList, InvalidNumber, TooMany
from skipcounts.finites import Finite, need_finite
from skipcounts.leastfinites import full_moves, least_of
from skipcounts.sums import Sum, need_sum, sum_of_numbers
from skipcounts.texts import in_order, need_letters, stands_over
from skipcounts.wholes import is_from_to

MOST_NUMBER = 10000
MOST_SUMS = 6
MOST_LISTS = 6000
MOST_STATES = 600
MOST_LETTERS = 300
FEW_BEGINNINGS = 40


def by_rest(total, number):
    """Return the sum whose numbers are the rests of the numbers of a sum."""
    need_sum(total)
    _need_number(number)
    return sum_of_numbers({word: own % number for word, own in total.terms()})


def rest_states(letters, sums, number):
    """Return how the rests of the worths of sums go on: the moves of the fewest states, and the rests at each."""
    need_letters(letters)
    _need_sums(sums)
    _need_number(number)
    moves, rests, _ = _states(letters, sums, number)
    return moves, rests


def rests_taken(letters, sums, number):
    """Return the lists of rests that sums have on some text, each with the first such text."""
    need_letters(letters)
    _need_sums(sums)
    _need_number(number)
    _, rests, texts = _states(letters, sums, number)
    firsts = {}
    for row, text in zip(rests, texts):
        firsts.setdefault(tuple(row), text)
    return [(list(row), text) for row, text in firsts.items()]


def how_many_with(letters, sums, number, rests, many):
    """Return how many texts of so many letters have a list of rests."""
    need_letters(letters)
    _need_sums(sums)
    _need_number(number)
    if not _are_rests(rests, number) or len(rests) != len(sums):
        raise InvalidList(rests)
    if not is_from_to(many, 0, MOST_LETTERS):
        raise InvalidNumber(many)
    moves, told, _ = _states(letters, sums, number)
    ways = [0] * len(moves)
    ways[0] = 1
    for _ in range(many):
        after = [0] * len(moves)
        for row, own in zip(moves, ways):
            for move in row:
                after[move] = after[move] + own
        ways = after
    return sum([own for row, own in zip(told, ways) if row == rests])


def rest_set(letters, total, number, rests):
    """Return the least finite machine whose texts are those on which a sum has one of a list of rests."""
    need_letters(letters)
    need_sum(total)
    _need_number(number)
    _need_rests(rests, number)
    moves, told, _ = _states(letters, [total], number)
    least, marks = least_of(moves, _marks(told, rests))
    return Finite(letters, least, [state for state, mark in enumerate(marks) if mark == 1])


def first_with(finite, total, number, rests):
    """Return the first text of a finite machine on which a sum has one of a list of rests, None if there is none."""
    need_finite(finite)
    need_sum(total)
    _need_number(number)
    _need_rests(rests, number)
    letters = finite.letters()
    moves, told, _ = _states(letters, [total], number)
    own_moves, own_marks = full_moves(finite)
    marks = _marks(told, rests)
    # A pair of states is a number; with it stands the pair from which it was reached first, and the letter's place.
    many = len(moves)
    ways = {0: None}
    pairs = [0]
    at = 0
    while at < len(pairs):
        pair = pairs[at]
        at = at + 1
        own, state = pair // many, pair % many
        if own_marks[own] == 1 and marks[state] == 1:
            return _text_to(letters, ways, pair)
        if own < len(own_moves) - 1:
            for place, own_move in enumerate(own_moves[own]):
                after = own_move * many + moves[state][place]
                if after not in ways:
                    ways[after] = (pair, place)
                    pairs.append(after)
    return None


def _need_number(number):
    """Refuse what is no number by which rests are taken."""
    if not is_from_to(number, 2, MOST_NUMBER):
        raise InvalidNumber(number)


def _need_sums(sums):
    """Refuse what is no list of 1 to 6 sums."""
    if not isinstance(sums, list) or not 1 <= len(sums) <= MOST_SUMS:
        raise InvalidList(sums)
    if not all([isinstance(total, Sum) for total in sums]):
        raise InvalidList(sums)


def _are_rests(value, number):
    """Return whether a value is a list of counts below a number."""
    return isinstance(value, list) and all([is_from_to(rest, 0, number - 1) for rest in value])


def _need_rests(rests, number):
    """Refuse what is no ascending list of unlike rests."""
    if not _are_rests(rests, number) or not all([ahead < behind for ahead, behind in zip(rests, rests[1:])]):
        raise InvalidList(rests)


def _marks(told, rests):
    """Return 1 for each state at which the only sum has one of some rests, 0 for others."""
    let = {rest: True for rest in rests}
    return [1 if row[0] in let else 0 for row in told]


def _text_to(letters, ways, pair):
    """Return the text by which a pair of states was reached first."""
    signs = []
    way = ways[pair]
    while way is not None:
        signs.append(letters[way[1]])
        way = ways[way[0]]
    return "".join(signs[::-1])


def _states(letters, sums, number):
    """Return the moves of rest_states, the rests at each state, and the first text that leads to it."""
    terms = []
    for total in sums:
        terms.append([(word, own % number) for word, own in total.terms()
                      if own % number != 0 and stands_over(letters, word)])
    _need_few_lists(letters, terms, number)
    # A state is what a text makes of the sums for the texts behind it: the rests of their numbers at ends of words.
    places = {}
    start = []
    for at, own_terms in enumerate(terms):
        for word, own in [("", 0)] + own_terms:
            for cut in range(len(word) + 1):
                if (at, word[cut:]) not in places:
                    places[(at, word[cut:])] = len(start)
                    start.append(0)
            start[places[(at, word)]] = start[places[(at, word)]] + own
    steps = {letter: [] for letter in letters}
    for (at, end), place in places.items():
        if end != "":
            steps[end[0]].append((places[(at, end[1:])], place))
    lists, moves, texts = _spread(letters, start, steps, number, MOST_STATES)
    firsts = [places[(at, "")] for at in range(len(sums))]
    return moves, [[row[first] for first in firsts] for row in lists], texts


def _need_few_lists(letters, terms, number):
    """Refuse terms for which the counts of all beginnings of their words make too many lists of rests."""
    words = [word for own_terms in terms for word, _ in own_terms]
    beginnings = in_order(sorted(set([""] + [word[:size] for word in words for size in range(len(word) + 1)])))
    # If the counts of some of them make too many lists, those of all do, but the lists of some are shorter.
    for many in [FEW_BEGINNINGS, len(beginnings)]:
        places = {beginning: at for at, beginning in enumerate(beginnings[:many])}
        steps = {letter: [] for letter in letters}
        for beginning, place in places.items():
            if beginning != "":
                steps[beginning[-1]].append((place, places[beginning[:-1]]))
        _spread(letters, [1] + [0] * (len(places) - 1), steps, number, MOST_LISTS)


def _spread(letters, start, steps, number, most):
    """Return all lists of rests to which letters lead from a list, their moves, and the first texts that do.

    A letter adds, for each tuple of its steps, the number at the second place to the one at the first place.
    """
    numbers = {tuple(start): 0}
    lists = [tuple(start)]
    texts = [""]
    moves = []
    while len(moves) < len(lists):
        own = lists[len(moves)]
        row = []
        for letter in letters:
            after = list(own)
            for place, source in steps[letter]:
                after[place] = (after[place] + own[source]) % number
            key = tuple(after)
            if key not in numbers:
                if len(lists) == most:
                    raise TooMany(most + 1)
                numbers[key] = len(lists)
                lists.append(key)
                texts.append(texts[len(moves)] + letter)
            row.append(numbers[key])
        moves.append(row)
    return lists, moves, texts
