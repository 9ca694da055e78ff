"""Conditions on the words that are read in a text, and chains of least lists that tell the same."""

from skipcounts.errors import InvalidList, InvalidSaying
from skipcounts.finites import Finite, need_finite
from skipcounts.leastfinites import least_finite, least_of
from skipcounts.leastlists import Cover, few_of_many, least_let
from skipcounts.mixtures import mixture
from skipcounts.readatall import is_read
from skipcounts.rings import spot_of
from skipcounts.texts import in_order, is_text, letters_in, need_letters, need_text


def is_condition(value):
    """Return whether a value is a condition."""
    if not isinstance(value, tuple) or len(value) != 2 or not isinstance(value[0], str):
        return False
    kind, given = value
    if kind == "reads":
        return is_text(given)
    if kind == "not":
        return is_condition(given)
    if kind != "and" and kind != "or":
        return False
    return isinstance(given, list) and all([is_condition(item) for item in given])


def holds(condition, text):
    """Return whether a condition holds for a text."""
    _need_condition(condition)
    need_text(text)
    return _holds(condition, text)


def parting_case(one, other):
    """Return the first text for which just one of two conditions holds, None if there is none."""
    _need_condition(one)
    _need_condition(other)
    words = _words_of(("and", [one, other]))
    _, texts = _walk(letters_in(words), words)
    for text in texts:
        if _holds(one, text) != _holds(other, text):
            return text
    return None


def both_read(one, other):
    """Return the least list of the texts in which one text of each of two lists is read."""
    _need_texts(one)
    _need_texts(other)
    return few_of_many([word for text in one for own in other for word in mixture(text, own)])


def chain(condition):
    """Return the only chain that lets just the texts for which a condition holds."""
    _need_condition(condition)
    # A least text has no letters but those of one reading of each word that is read in it.
    built = {"": True}
    for word in in_order(_words_of(condition))[::-1]:
        longer = [text for own in built for text in mixture(own, word)]
        built.update({text: True for text in longer})
    told = {text: _holds(condition, text) for text in in_order(list(built))}
    lists = []
    wanted = True
    least = few_of_many([text for text in told if told[text]])
    while least:
        lists.append(least)
        wanted = not wanted
        cover = Cover(least)
        least = few_of_many([text for text in told if told[text] == wanted and cover.covers(text)])
    return lists


def is_chain(value):
    """Return whether a value is a chain."""
    if not isinstance(value, list) or not all([_is_least_list(texts) for texts in value]):
        return False
    for ahead, behind in zip(value, value[1:]):
        for text in behind:
            if not any([is_read(own, text) for own in ahead]):
                return False
        for text in ahead:
            if any([is_read(own, text) for own in behind]):
                return False
    return True


def chain_lets(lists, text):
    """Return whether a chain lets a text."""
    if not is_chain(lists):
        raise InvalidList(lists)
    need_text(text)
    many = sum([1 for texts in lists if any([is_read(own, text) for own in texts])])
    return many % 2 == 1


def levels(condition):
    """Return the most texts, each read in the next one, for which a condition holds and does not hold by turns."""
    _need_condition(condition)
    found = []
    for texts in chain(condition)[::-1]:
        found.append([text for text in texts if not found or is_read(text, found[-1])][0])
    return found[::-1]


def finite_of(letters, condition):
    """Return the least finite machine that lets the texts over an alphabet for which a condition holds."""
    need_letters(letters)
    _need_condition(condition)
    moves, texts = _walk(letters, _words_of(condition))
    least, told = least_of(moves, [1 if _holds(condition, text) else 0 for text in texts])
    return Finite(letters, least, [state for state, mark in enumerate(told) if mark == 1])


def chain_of_finite(machine):
    """Return the chain that lets just the texts that a finite machine lets, None if there is none."""
    need_finite(machine)
    letters = machine.letters()
    moves, told = least_finite(machine)
    if spot_of(letters, moves, told) is not None:
        return None
    lists = []
    mark = 1
    least = least_let(letters, moves, told, mark, [""])
    while least:
        lists.append(least)
        mark = 1 - mark
        least = least_let(letters, moves, told, mark, least)
    return lists


def _need_condition(condition):
    """Refuse what is no condition."""
    if not is_condition(condition):
        raise InvalidSaying(condition)


def _need_texts(texts):
    """Refuse what is no list of texts."""
    if not isinstance(texts, list) or not all([is_text(text) for text in texts]):
        raise InvalidList(texts)


def _holds(condition, text):
    """Return what holds returns, for what is known to be a condition and a text."""
    kind, given = condition
    if kind == "reads":
        return is_read(given, text)
    if kind == "not":
        return not _holds(given, text)
    answers = [_holds(own, text) for own in given]
    return all(answers) if kind == "and" else any(answers)


def _words_of(condition):
    """Return the words of a condition, each once."""
    kind, given = condition
    if kind == "reads":
        return [given]
    if kind == "not":
        return _words_of(given)
    return sorted(set([word for own in given for word in _words_of(own)]))


def _walk(letters, words):
    """Return moves of states, and the first texts that lead to them, in order; they tell which words are read.

    A state is how many letters of each word are passed.
    """
    start = tuple([0 for _ in words])
    numbers = {start: 0}
    passed = [start]
    texts = [""]
    moves = []
    while len(moves) < len(passed):
        row = []
        for letter in letters:
            own = passed[len(moves)]
            after = tuple([at + 1 if word[at:at + 1] == letter else at for at, word in zip(own, words)])
            if after not in numbers:
                numbers[after] = len(passed)
                passed.append(after)
                texts.append(texts[len(moves)] + letter)
            row.append(numbers[after])
        moves.append(row)
    return moves, texts


def _is_least_list(value):
    """Return whether a value is a least list that is not empty."""
    if not isinstance(value, list) or not value or not all([is_text(text) for text in value]):
        return False
    if value != in_order(value):
        return False
    for at, text in enumerate(value):
        if any([is_read(own, text) for own in value[:at]]):
            return False
    return True
