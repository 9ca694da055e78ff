"""Least lists: texts none of which is read in another one, and the texts in which one of them is read."""

from skipcounts.errors import TooMany
from skipcounts.readatall import is_read
from skipcounts.texts import in_order

MOST_IN_LIST = 200
# Longer texts have too many parts that could be kept.
MOST_KEPT = 10


class Cover:
    """Some texts, and whether one of them is read in a text; what was found for short texts is kept for longer ones."""

    def __init__(self, texts):
        self._texts = list(texts)
        self._known = {text: True for text in texts}

    def covers(self, text):
        """Return whether one of the texts is read in a text."""
        if len(text) > MOST_KEPT:
            return any([is_read(own, text) for own in self._texts])
        if text not in self._known:
            shorter = [text[:place] + text[place + 1:] for place in range(len(text))]
            self._known[text] = any([self.covers(own) for own in shorter])
        return self._known[text]

    def put(self, text):
        """Put in a text, behind which only texts are asked for that have at least as many letters."""
        self._texts.append(text)
        self._known[text] = True


class Rests:
    """What is left to read of one of some texts behind a text: least lists, with numbers; the first is number 0."""

    def __init__(self, texts):
        self._lists = [texts]
        self._numbers = {tuple(texts): 0}
        self._moves = {}

    def behind(self, number, letter):
        """Return the number of the list that is left of a list behind a letter."""
        key = (number, letter)
        if key not in self._moves:
            left = [text[1:] if text[:1] == letter else text for text in self._lists[number]]
            rest = least_list(left)
            own = tuple(rest)
            if own not in self._numbers:
                self._numbers[own] = len(self._lists)
                self._lists.append(rest)
            self._moves[key] = self._numbers[own]
        return self._moves[key]

    def is_done(self, number):
        """Return whether nothing is left to read."""
        return self._lists[number] == [""]


def least_list(texts):
    """Return the texts in none of which another one of them is read, in the order of texts."""
    found = []
    for text in in_order(texts):
        if not any([is_read(own, text) for own in found]):
            found.append(text)
    return found


def few_of_many(texts):
    """Return the same for many short texts, of which no more than 200 may be left."""
    cover = Cover([])
    found = []
    for text in in_order(texts):
        if not cover.covers(text):
            cover.put(text)
            found.append(text)
            need_few(found)
    return found


def least_let(letters, moves, told, mark, ahead):
    """Return the least list of the texts with a mark in which one text of a least list is read.

    The mark is told at the states of a machine without None in which no letter leads back to a state that was left.
    """
    rests = Rests(ahead)
    found = {letter: [] for letter in letters}
    level = [("", (0, 0), [])]
    least = []
    while level:
        longer = []
        for text, own, shorter in level:
            if text != "" and any([is_read(let, text) for let in found[text[-1]]]):
                continue
            if told[own[0]] == mark and rests.is_done(own[1]):
                least.append(text)
                need_few(least)
                if text == "":
                    return least
                found[text[-1]].append(text)
            else:
                longer.extend(_longer(letters, moves, rests, text, own, shorter))
        level = longer
    return least


def need_few(texts):
    """Refuse a list of more than 200 texts."""
    if len(texts) > MOST_IN_LIST:
        raise TooMany(MOST_IN_LIST + 1)


def _longer(letters, moves, rests, text, own, shorter):
    """Return a text with each letter behind it that may begin a least text, each with what is kept of it.

    This is the state and the rest to which it leads, and the list of those to which it leads without one letter. If
    one of these is the same, the letter can go in whatever the text begins.
    """
    found = []
    for place, letter in enumerate(letters):
        after = (moves[own[0]][place], rests.behind(own[1], letter))
        if after != own:
            less = [(moves[state][place], rests.behind(rest, letter)) for state, rest in shorter]
            if after not in less:
                found.append((text + letter, after, sorted(set(less + [own]))))
    return found
