"""Tight machines for sums, worked out without the machines that count their words."""

from skipcounts.lattices import Lattice, taken_in
from skipcounts.registers import Machine, need_few
from skipcounts.sums import within
from skipcounts.texts import in_order


def tight_for_sum(letters, total):
    """Return a tight machine with the worth of a sum at every text over an alphabet, if its rank is at most 40.

    What a text makes of the sum for the texts behind it is made of the front parts of the sum, each taken a whole
    number of times, and makes all of them. So these tell the registers.
    """
    terms = within(total, letters).terms()
    ends = sorted(set([word[cut:] for word, _ in terms for cut in range(len(word) + 1)]))
    places = {end: at for at, end in enumerate(in_order(ends))}
    parts = {}
    for word, number in terms:
        for cut in range(len(word) + 1):
            part = parts.setdefault(word[:cut], {})
            part[places[word[cut:]]] = number
    lattice = Lattice()
    # The front parts of the longest words are the shortest ones.
    for word in in_order(list(parts))[::-1]:
        lattice.puts(parts[word])
        need_few(lattice.size())
    stairs = lattice.stairs()
    start = taken_in(stairs, parts.get("", {}))
    tables = [[taken_in(stairs, _moved(stair, letter, places)) for stair in stairs] for letter in letters]
    return Machine(letters, start, tables, [stair.get(0, 0) for stair in stairs])


def _moved(stair, letter, places):
    """Return what a letter makes of a sum: the sum and its front part at the letter."""
    found = {place: number for place, number in stair.items()}
    for end, place in places.items():
        if end.startswith(letter) and place in stair:
            shorter = places[end[1:]]
            found[shorter] = found.get(shorter, 0) + stair[place]
    return {place: number for place, number in found.items() if number != 0}
