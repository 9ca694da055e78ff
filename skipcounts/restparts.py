"""Least finite machines put together of machines for unlike primes."""

from skipcounts.roundtrips import vanishes_by
from skipcounts.wholes import bezout


def parts_of(moves):
    """Return the parts for unlike primes of which a least machine is put together, None if it is not."""
    many = len(moves)
    for place in range(len(moves[0])):
        if len(set([row[place] for row in moves])) < many:
            return None
    found = []
    sizes = 1
    for prime in _primes_of(many):
        part, spots = _part(moves, prime)
        if part is None or not vanishes_by(part, [1] + [0] * (len(part) - 1), prime):
            return None
        found.append((prime, part, spots))
        sizes = sizes * len(part)
    # Each state needs spots of its own.
    at_states = [tuple([own_spots[at] for _, _, own_spots in found]) for at in range(many)]
    if sizes != many or len(set(at_states)) < many:
        return None
    return found


def _part(moves, prime):
    """Return the moves of the part for a prime and the spots of all states; None for the moves if there is none.

    States that only come apart in turns of which the prime is no divisor have one spot.
    """
    many = len(moves)
    other_moves = [_other_turns([own_row[place] for own_row in moves], prime) for place in range(len(moves[0]))]
    spots = [None] * many
    firsts = []
    for state in range(many):
        if spots[state] is None:
            rest = [state]
            while rest:
                own = rest.pop()
                if spots[own] is None:
                    spots[own] = len(firsts)
                    rest.extend([lead[own] for lead in other_moves])
            firsts.append(state)
    part = [[spots[move] for move in moves[state]] for state in firsts]
    for state, row in enumerate(moves):
        if [spots[move] for move in row] != part[spots[state]]:
            return None, spots
    return part, spots


def _other_turns(lead, prime):
    """Return to where a letter leads if it is taken so often that only its turns without the prime are left.

    That is a number of times that the power of the prime in each turn divides, and that is 1 more than a multiple of
    what is left of the turn.
    """
    found = list(lead)
    done = {}
    for state in range(len(lead)):
        if state not in done:
            circle = [state]
            while lead[circle[-1]] != state:
                circle.append(lead[circle[-1]])
            power = 1
            while len(circle) % (power * prime) == 0:
                power = power * prime
            _, times, _ = bezout(power, len(circle) // power)
            for at, own in enumerate(circle):
                done[own] = True
                found[own] = circle[(at + power * times) % len(circle)]
    return found


def _primes_of(number):
    """Return the primes that divide a number, in order."""
    found = []
    left = number
    prime = 2
    while left > 1:
        if left % prime == 0:
            found.append(prime)
            while left % prime == 0:
                left = left // prime
        prime = prime + 1
    return found
