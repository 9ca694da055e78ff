"""Stairs: the one least form of all rows that some rows make if each is taken a whole number of times.

A row is a dict of places with their numbers, without those that are 0. Rows are stairs if their first places ascend,
each first number is above 0, and each row ahead has at this place a number of at least 0 that is less.
"""

from skipcounts.wholes import bezout


class Lattice:
    """All rows that the rows put in make, each taken a whole number of times."""

    def __init__(self):
        self._stairs = {}

    def puts(self, row):
        """Put in a row; return what it has less than a row made before, without places if it was made itself."""
        left = row
        for place in sorted(self._stairs):
            if place in left:
                stair = self._stairs[place]
                left = _combined(1, left, -(left[place] // stair[place]), stair)
        if left:
            _put_in(self._stairs, left)
        return left

    def size(self):
        """Return how many stairs make these rows."""
        return len(self._stairs)

    def stairs(self):
        """Return the stairs that make just these rows."""
        return stairs_of(list(self._stairs.values()))


def stairs_of(rows):
    """Return the stairs that make just what the rows make."""
    stairs = {}
    for row in rows:
        _put_in(stairs, row)
    found = {}
    for first in sorted(stairs, reverse=True):
        found[first] = _lessened(found, _upright(stairs[first]))
    return [found[first] for first in sorted(found)]


def stairs_that_vanish(equations, width):
    """Return the stairs that make all rows with so many places for which all equations give 0.

    An equation is a row; it gives the sum of its numbers, each times the number at the same place.
    """
    stairs = [{place: 1} for place in range(width)]
    for equation in equations:
        stairs = _meeting(stairs, equation)
    return stairs


def taken_in(stairs, row):
    """Return how often each stair is taken in a row that they make."""
    found = []
    left = row
    for stair in stairs:
        place = _first(stair)
        found.append(left.get(place, 0) // stair[place])
        left = _combined(1, left, -found[-1], stair)
    return found


def sparse(row):
    """Return the dict of the places of a list with their numbers, where these are not 0."""
    return {place: number for place, number in enumerate(row) if number != 0}


def _meeting(stairs, equation):
    """Return the stairs for what some stairs make and an equation gives 0 for."""
    found = {}
    # Of the stairs that are done, joint gives the least number above 0 that any row made of them gives, if any does.
    least, joint = 0, {}
    for row in reversed(stairs):
        given = sum([number * equation.get(place, 0) for place, number in row.items()])
        if given == 0:
            made = row
        elif least == 0:
            least, joint = given, row
            continue
        else:
            low, joint_share, share = bezout(least, given)
            made = _combined(least // low, row, -(given // low), joint)
            least, joint = low, _combined(joint_share, joint, share, row)
        found[_first(made)] = _lessened(found, _upright(made))
        joint = _lessened(found, joint)
    return [found[first] for first in sorted(found)]


def _put_in(stairs, row):
    """Change a dict of rows by their first places so that the row is made of them, too."""
    rest = row
    while rest:
        first = _first(rest)
        if first not in stairs:
            stairs[first] = rest
            return
        above = stairs[first]
        low, above_share, share = bezout(above[first], rest[first])
        left = _combined(above[first] // low, rest, -(rest[first] // low), above)
        if rest[first] % above[first] != 0:
            stairs[first] = _lessened(stairs, _combined(above_share, above, share, rest))
        # Lessened at each step, as the numbers would soon have very many figures otherwise.
        rest = _lessened(stairs, left)


def _lessened(stairs, row):
    """Return a row with a number from 0 on, less than the first one of the stair, at each stair behind its first."""
    if not row:
        return row
    least = row
    first = _first(row)
    for place in sorted(stairs):
        if place > first and place in least:
            least = _combined(1, least, -(least[place] // stairs[place][place]), stairs[place])
    return least


def _upright(row):
    """Return the row, or its opposite, that has a first number above 0."""
    if row[_first(row)] < 0:
        return _combined(-1, row, 0, {})
    return row


def _first(row):
    """Return the first place of a row."""
    return min(list(row))


def _combined(one_times, one, other_times, other):
    """Return what two rows make, each taken so many times."""
    made = {place: one_times * number for place, number in one.items()}
    if other_times != 0:
        for place, number in other.items():
            made[place] = made.get(place, 0) + other_times * number
    return {place: number for place, number in made.items() if number != 0}
