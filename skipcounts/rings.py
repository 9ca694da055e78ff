"""Finite machines that see only what is read, and what shows that one does not."""

from skipcounts.arches import forms_to
from skipcounts.finites import led_from, need_finite
from skipcounts.leastfinites import least_finite
from skipcounts.leastforms import form_of
from skipcounts.roundtrips import parting_end, text_between
from skipcounts.texts import stands_over


def sight(machine):
    """Return the least depth to which a machine sees only what is read, None if there is none."""
    need_finite(machine)
    found = _sight_and_forms(machine)
    return None if found is None else found[0]


def seen_forms(machine):
    """Return this depth and the list of the forms to it that the machine lets, None if there is none."""
    need_finite(machine)
    return _sight_and_forms(machine)


def blind_spot(machine):
    """Return texts that show that a machine sees more than what is read, None if there are none."""
    need_finite(machine)
    moves, told = least_finite(machine)
    return spot_of(machine.letters(), moves, told)


def is_blind_spot(machine, value):
    """Return whether a value are texts that show that a machine sees more than what is read."""
    need_finite(machine)
    letters = machine.letters()
    if not isinstance(value, tuple) or len(value) not in (5, 6) or value[0] not in ("ring", "pair"):
        return False
    if len(value) != (5 if value[0] == "ring" else 6) or not all([stands_over(letters, text) for text in value[1:]]):
        return False
    moves, told = least_finite(machine)
    if value[0] == "ring":
        return _is_ring(letters, moves, told, value[1:])
    return _is_pair(letters, moves, told, value[1:])


def spot_of(letters, moves, told):
    """Return what blind_spot returns, for the moves of a least machine and what is told at its states."""
    states = range(len(moves))
    reached = [_reached_from(moves, state) for state in states]
    for state in states:
        for other in reached[state]:
            if other != state and state in reached[other]:
                there, back = text_between(letters, moves, state, other), text_between(letters, moves, other, state)
                end = parting_end(letters, moves, told, state, other)
                return "ring", text_between(letters, moves, 0, state), there, back, end
    # No state comes back now, so behind so many rounds neither of the two letters leads to another state.
    for state in states:
        for first in letters:
            for second in letters:
                turns = (first + second) * len(moves)
                one = led_from(letters, moves, state, first + turns)
                other = led_from(letters, moves, state, second + turns)
                if one != other:
                    end = parting_end(letters, moves, told, one, other)
                    return "pair", text_between(letters, moves, 0, state), first, second, turns, end
    return None


def _sight_and_forms(machine):
    """Return what seen_forms returns."""
    letters = machine.letters()
    moves, told = least_finite(machine)
    if spot_of(letters, moves, told) is not None:
        return None
    depth = 0
    states = None
    while states is None:
        forms = forms_to(letters, depth)
        states = _states_of_forms(letters, moves, forms, depth)
        depth = depth + 1
    return depth - 1, [form for form in forms if told[states[form]] == 1]


def _states_of_forms(letters, moves, forms, depth):
    """Return the dict of the forms with the states to which all texts with them lead, None if there is none."""
    states = {form: led_from(letters, moves, 0, form) for form in forms}
    for form in forms:
        for letter in letters:
            after = led_from(letters, moves, states[form], letter)
            if after != states[form_of(depth, form + letter)]:
                return None
    return states


def _reached_from(moves, state):
    """Return the states to which texts lead from a state, this one first, as the keys of a dict."""
    found = {state: True}
    rest = [state]
    while rest:
        own = rest.pop()
        for move in moves[own]:
            if move not in found:
                found[move] = True
                rest.append(move)
    return found


def _is_ring(letters, moves, told, texts):
    """Return whether texts over the letters are what stands behind the word ring."""
    start, one, other, behind = texts
    state = led_from(letters, moves, 0, start)
    if led_from(letters, moves, state, one + other) != state:
        return False
    return told[led_from(letters, moves, state, behind)] != told[led_from(letters, moves, state, one + behind)]


def _is_pair(letters, moves, told, texts):
    """Return whether texts over the letters are what stands behind the word pair."""
    start, first, second, turns, behind = texts
    if len(first) != 1 or len(second) != 1 or not stands_over(first + second, turns):
        return False
    marks = []
    for letter in [first, second]:
        state = led_from(letters, moves, 0, start + letter + turns)
        if any([led_from(letters, moves, state, sign) != state for sign in [first, second]]):
            return False
        marks.append(told[led_from(letters, moves, state, behind)])
    return marks[0] != marks[1]
