"""Least forms: the first text of those that are read alike to a depth, and steps between such texts."""

from skipcounts.readatall import need_depth
from skipcounts.texts import is_text, need_text


def ranks(text):
    """Return the ranks of all places of a text."""
    need_text(text)
    return _ranks(text)


def can_go(depth, text):
    """Return the places of a text without whose letter it is read alike to a depth."""
    need_depth(depth)
    need_text(text)
    return _going(depth, text)


def least_form(depth, text):
    """Return the first text that is read alike with a text to a depth."""
    need_depth(depth)
    need_text(text)
    return form_of(depth, text)


def steps(depth, one, other):
    """Return texts from one to other, each a letter more or less than the one ahead, all read alike; None if none."""
    need_depth(depth)
    need_text(one)
    need_text(other)
    if one == other:
        return [one]
    way, other_way = _way_down(depth, one), _way_down(depth, other)
    if way[-1] != other_way[-1]:
        return None
    return way + other_way[:-1][::-1]


def are_steps(depth, value):
    """Return whether a value is a list of texts that are read alike, each a letter more or less than the one ahead."""
    need_depth(depth)
    if not isinstance(value, list) or not value or not all([is_text(item) for item in value]):
        return False
    return all([_is_step(depth, one, other) for one, other in zip(value, value[1:])])


def form_of(depth, text):
    """Return the least form of a text, for a depth and a text that are known to be right."""
    return _way_down(depth, text)[-1]


def is_form(depth, text):
    """Return whether a text is its own least form."""
    return not _going(depth, text) and all([text[low:high] == _sorted(text[low:high])
                                            for low, high in _loose_rows(depth, text)])


def _ranks(text):
    """Return what ranks returns, for what is known to be a text."""
    return list(zip(_front_ranks(text), _front_ranks(text[::-1])[::-1]))


def _front_ranks(text):
    """Return the first number of the ranks of each place."""
    found = []
    last = {}
    for place, sign in enumerate(text):
        found.append(1 + min(found[last[sign]:]) if sign in last else 1)
        last[sign] = place
    return found


def _going(depth, text):
    """Return what can_go returns, for a depth and a text that are known to be right."""
    return [place for place, (front, back) in enumerate(_ranks(text)) if front + back > depth + 1]


def _way_down(depth, text):
    """Return texts from a text to its least form, each a letter more or less than the one ahead."""
    way = [text]
    going = _going(depth, text)
    while going:
        way.append(_without(way[-1], going[-1]))
        going = _going(depth, way[-1])
    rows = _loose_rows(depth, way[-1])
    wanted = way[-1]
    for low, high in rows:
        wanted = wanted[:low] + _sorted(wanted[low:high]) + wanted[high:]
    for place, sign in enumerate(wanted):
        left = way[-1]
        if left[place] != sign:
            # The letter is put in where it belongs, and then taken away from where it stood.
            more = left[:place] + sign + left[place:]
            way.extend([more, _without(more, left.index(sign, place) + 1)])
    return way


def _loose_rows(depth, text):
    """Return the start and the end of each longest row of places whose letters can stand in any order."""
    own = _ranks(text)
    rows = []
    low = 0
    for high in range(1, len(own) + 1):
        if high == len(own) or own[high] != own[low]:
            if sum(own[low]) == depth + 1:
                rows.append((low, high))
            low = high
    return rows


def _sorted(text):
    """Return the letters of a text in order."""
    return "".join(sorted(text))


def _without(text, place):
    """Return a text without the letter at a place."""
    return text[:place] + text[place + 1:]


def _is_step(depth, one, other):
    """Return whether two texts are read alike and one has just one letter more, with which it is the other one."""
    if abs(len(one) - len(other)) != 1:
        return False
    longer, shorter = (one, other) if len(one) > len(other) else (other, one)
    place = 0
    while place < len(shorter) and longer[place] == shorter[place]:
        place = place + 1
    return _without(longer, place) == shorter and place in _going(depth, longer)
