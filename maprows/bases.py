"""Reduced bases of spaces of vectors modulo a prime, for callers that have checked what they hand in.

A basis is a tuple of pairs of a lead and a vector, ascending. The lead of a vector is the index of its first item other
than 0: this item is 1, and all other vectors of the basis have 0 there.
"""

from maprows.rests import INVERSES


class Reduced:
    """A basis that is known to be reduced, so that it is not reduced again."""

    def __init__(self, pairs):
        self.pairs = pairs


def reduced(prime, vectors):
    """The reduced basis of the space of all sums of multiples of vectors."""
    return widened(prime, (), vectors)


def widened(prime, basis, vectors):
    """The reduced basis of the space of a reduced basis and some vectors."""
    pairs = basis
    for vector in vectors:
        if len(pairs) == len(vector):
            # All vectors of this length are in the space already.
            break
        rest = rest_of(prime, pairs, vector)
        lead = lead_of(rest)
        if lead is not None:
            factor = INVERSES[prime][rest[lead]]
            added = [item * factor % prime for item in rest] if factor != 1 else rest
            pairs = [(other, _cleared(prime, row, lead, added)) for other, row in pairs] + [(lead, added)]
    # No two leads are the same, so that no two vectors are compared.
    return tuple([(lead, tuple(row)) for lead, row in sorted(pairs)])


def lead_of(vector):
    """The index of the first item other than 0, or None."""
    for index, item in enumerate(vector):
        if item != 0:
            return index
    return None


def rest_of(prime, basis, vector):
    """What a reduced basis, in any order, leaves of a vector: a list with 0 at each of its leads."""
    rest = vector
    for lead, row in basis:
        # The item is still that of the vector: the rows of the basis ahead have 0 there.
        factor = vector[lead] % prime
        if factor != 0:
            rest = [item - factor * taken for item, taken in zip(rest, row)]
    return [item % prime for item in rest]


def _cleared(prime, row, lead, added):
    """A row less that multiple of a row with 1 at a lead that leaves 0 there."""
    factor = row[lead]
    if factor == 0:
        return row
    return [(item - factor * taken) % prime for item, taken in zip(row, added)]


def outside(basis, rows):
    """Columns for rows: sums of multiples of the rows are in the space of a basis where those of the columns are 0."""
    columns = list(zip(*rows))
    leads = [lead for lead, _ in basis]
    return [_outside_at(basis, columns, index) for index in range(len(columns)) if index not in leads]


def _outside_at(basis, columns, index):
    """The items at an index of what a basis leaves of rows, of which the columns are told."""
    left = columns[index]
    for lead, row in basis:
        factor = row[index]
        if factor != 0:
            left = [item - factor * taken for item, taken in zip(left, columns[lead])]
    return left


def relations(prime, columns, height):
    """The reduced basis of the space of all factors with which the items of each column add up to 0."""
    settled = settled_factors(prime, columns, height)
    places = range(height)
    return tuple([
        (free, tuple([-settled[at][free] % prime if at in settled else int(at == free) for at in places]))
        for free in places if free not in settled
    ])


def settled_factors(prime, columns, height):
    """Which of the factors with which the items of each column add up to 0 follow from the others, which are free.

    Returns a dict from their indexes to lists: products of the items of a list and the factors add up to 0, the factor
    that follows has 1 as its item, and others have 0 but for those that are free and stand ahead of it.
    """
    # Reduced from the last factor on, so that a relation for each free factor, with 0 as the other free ones, begins
    # with it: these relations are a reduced basis then.
    asked = reduced(prime, [column[::-1] for column in columns])
    return {height - 1 - lead: column[::-1] for lead, column in asked}
