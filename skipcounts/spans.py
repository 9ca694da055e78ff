"""Spans: all rows that some rows make if each is taken a number of times that may be a fraction."""

from skipcounts.wholes import bezout

# The prime number 2 to the power of 61, less 1. Rows whose rests by it make no zero row make none themselves, and
# rests stay short.
PRIME = 2305843009213693951


class Span:
    """The rows that are made of the rows put in; of these only those are kept that the ones ahead do not make."""

    def __init__(self, width):
        self._width = width
        self._rows = []
        # Tuples of a place and a row that has 1 there and nothing ahead of it, for all of the rows, by rests.
        self._rests = []
        # The same without rests, for the first of the rows; worked out as far as somebody asks.
        self._stairs = []
        self._by_rests = True

    def size(self):
        """Return how many rows are kept."""
        return len(self._rows)

    def has(self, row):
        """Return whether the rows put in make a row."""
        if len(self._rows) == self._width or not any(row):
            return True
        if self._by_rests and any(_rest_left(self._rests, row)):
            return False
        while len(self._stairs) < len(self._rows):
            _put_stair(self._stairs, self._rows[len(self._stairs)])
        return not any(_left(self._stairs, row))

    def puts(self, row):
        """Return whether a row is not made by the rows put in; if so, put it in."""
        if self.has(row):
            return False
        self._rows.append(row)
        rest = _rest_left(self._rests, row)
        if any(rest):
            place = _first_place(rest)
            _, share, _ = bezout(rest[place], PRIME)
            self._rests.append((place, [number * share % PRIME for number in rest]))
        else:
            # By rests the row is made by the others, so rests tell nothing about this span any more.
            self._by_rests = False
        return True


class RestSpan:
    """The rests by a number of all rows that the rows put in make, each taken a whole number of times."""

    def __init__(self, by, width):
        self._by = by
        # The stair with an index has no numbers ahead of this place, and there one that divides by.
        self._stairs = [[by if at == place else 0 for at in range(width)] for place in range(width)]

    def puts(self, row):
        """Return whether a row of rests is not made by the rows put in; if so, put it in."""
        left = row
        is_new = False
        for place, stair in enumerate(list(self._stairs)):
            head, own = stair[place], left[place]
            if own % head == 0:
                left = self._made(1, left, -(own // head), stair)
            else:
                low, stair_share, share = bezout(head, own)
                self._stairs[place] = self._made(stair_share, stair, share, left)
                self._stairs[place][place] = low
                left = self._made(head // low, left, -(own // low), stair)
                is_new = True
        return is_new

    def _made(self, one_times, one, other_times, other):
        """Return the rests of what two rows make, each taken so many times."""
        return [(one_times * number + other_times * own) % self._by for number, own in zip(one, other)]


def shares_of(rows, targets):
    """Return for each target how often the rows are taken in it: a list of numbers, and what divides them all.

    No row may be made by the others, and each target has to be made by them.
    """
    stairs = []
    for at, row in enumerate(rows):
        _put_stair(stairs, row + [1 if at == own else 0 for own in range(len(rows))])
    by = stairs[-1][1][stairs[-1][0]] if stairs else 1
    found = []
    for target in targets:
        left = _left(stairs, target + [0] * len(rows))
        found.append([-number for number in left[len(left) - len(rows):]])
    return found, by


def _put_stair(stairs, row):
    """Change stairs by one more row that they do not make."""
    left = _left(stairs, row)
    stairs.append((_first_place(left), left))


def _left(stairs, row):
    """Return what is left of a row if each stair in turn takes away the number at its place.

    All numbers are determinants of those of the rows at the start, so they are whole and not too long.
    """
    left = row
    before = 1
    for place, stair in stairs:
        head, own = stair[place], left[place]
        left = [(head * number - own * less) // before for number, less in zip(left, stair)]
        before = head
    return left


def _rest_left(rests, row):
    """Return what is left of a row by rests if each stair in turn takes away the number at its place."""
    left = [number % PRIME for number in row]
    for place, stair in rests:
        own = left[place]
        if own != 0:
            left = [(number - own * less) % PRIME for number, less in zip(left, stair)]
    return left


def _first_place(row):
    """Return the first place of a number that is not 0."""
    place = 0
    while row[place] == 0:
        place = place + 1
    return place
