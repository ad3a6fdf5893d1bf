"""Spaces of vectors modulo a prime, held by their reduced bases."""

from maprows.bases import Reduced, lead_of, outside, reduced, relations, rest_of, settled_factors, widened
from maprows.errors import InvalidMatrix, InvalidSize, InvalidVector, NotWithin, UnlikeSpaces
from maprows.rests import check_prime, has_width, is_integer, is_list, is_matrix, is_vector, mixed

# No vector of a space is longer, and no matrix that is taken back or apart is higher.
MOST = 12


class Space:
    """All sums of multiples of some vectors of one length."""

    def __init__(self, prime, length, vectors=()):
        check_prime(prime)
        _check_size(length)
        self._prime = prime
        self._length = length
        self._basis = vectors.pairs if isinstance(vectors, Reduced) else _reduced(prime, length, vectors)

    @classmethod
    def nothing(cls, prime, length):
        """The space with the vector of zeros alone."""
        return cls(prime, length)

    @classmethod
    def whole(cls, prime, length):
        """The space of all vectors of a length."""
        check_prime(prime)
        _check_size(length)
        return cls(prime, length, Reduced(tuple(enumerate(_units(length)))))

    @property
    def prime(self):
        """The prime modulo which the space calculates."""
        return self._prime

    @property
    def length(self):
        """The length of the vectors."""
        return self._length

    def basis(self):
        """The list of the vectors of the reduced basis."""
        return [row for _, row in self._basis]

    def __len__(self):
        return len(self._basis)

    def __eq__(self, other):
        return (
            isinstance(other, Space) and self._prime == other._prime
            and self._length == other._length and self._basis == other._basis
        )

    def __contains__(self, x):
        return lead_of(self.rest(x)) is None

    def rest(self, vector):
        """The vector less that vector of the space that leaves 0 where the basis has its leading items."""
        _check_vector(vector, self._length)
        return tuple(rest_of(self._prime, self._basis, vector))

    def lies_in(self, other):
        """Whether all vectors of the space are in another one."""
        _check_alike(self, other)
        return all([lead_of(rest_of(self._prime, other._basis, row)) is None for _, row in self._basis])

    def __add__(self, other):
        _check_alike(self, other)
        return _space(self._prime, self._length, widened(self._prime, self._basis, other.basis()))

    def __and__(self, other):
        _check_alike(self, other)
        rows = self.basis()
        found = relations(self._prime, outside(other._basis, rows), len(rows))
        # Its lead is that of the first of our vectors in it, and at all leads of ours it has the factors as items.
        return _space(self._prime, self._length, tuple([
            (self._basis[first][0], mixed(self._prime, factors, rows, self._length)) for first, factors in found
        ]))

    def image(self, matrix, width):
        """The space of the vectors to which a matrix of a width leads those of this space."""
        _check_size(width)
        if not is_matrix(matrix, self._length, width):
            raise InvalidMatrix(matrix)
        return _space(self._prime, width, reduced(self._prime, [
            mixed(self._prime, row, matrix, width) for _, row in self._basis
        ]))

    def back(self, matrix):
        """The space of the vectors that a matrix leads into this space."""
        _check_low(matrix, self._length)
        return _space(self._prime, len(matrix), relations(self._prime, outside(self._basis, matrix), len(matrix)))


def extension(inner, outer):
    """Vectors that together with a basis of a space are a basis of one in which it lies."""
    _check_alike(inner, outer)
    if not inner.lies_in(outer):
        raise NotWithin()
    # The rests of all vectors of the outer space are a space that meets the inner one in zeros only.
    return [row for _, row in reduced(inner.prime, [inner.rest(row) for row in outer.basis()])]


def factors_for(prime, rows, vector):
    """Factors with which rows add up to a vector, or None."""
    check_prime(prime)
    if not (is_list(vector) and len(vector) <= MOST and is_vector(vector, len(vector))):
        raise InvalidVector(vector)
    _check_low(rows, len(vector))
    # The vector taken once and the rows with the opposite factors add up to zeros, so that its factor must be free.
    settled = settled_factors(prime, list(zip(vector, *rows)), len(rows) + 1)
    if 0 in settled:
        return None
    return [settled[index][0] if index in settled else 0 for index in range(1, len(rows) + 1)]


def inverse_of(prime, matrix):
    """The matrix that leads back what a matrix leads, or None."""
    check_prime(prime)
    if not is_list(matrix):
        raise InvalidMatrix(matrix)
    size = len(matrix)
    _check_low(matrix, size)
    # What is done to the rows of the matrix is done to the unit vectors behind them, too.
    found = reduced(prime, [tuple(row) + unit for row, unit in zip(matrix, _units(size))])
    if [lead for lead, _ in found] != list(range(size)):
        return None
    return [row[size:] for _, row in found]


def _check_size(size):
    if not is_integer(size, 0, MOST):
        raise InvalidSize(size)


def _check_vector(vector, length):
    if not is_vector(vector, length):
        raise InvalidVector(vector)


def _check_low(matrix, width):
    """Raise InvalidMatrix unless a value is a matrix of a width and a height for which there is a space."""
    if not (has_width(matrix, width) and len(matrix) <= MOST):
        raise InvalidMatrix(matrix)


def _check_alike(one, other):
    if not (isinstance(one, Space) and isinstance(other, Space)):
        raise UnlikeSpaces()
    if one.prime != other.prime or one.length != other.length:
        raise UnlikeSpaces()


def _units(size):
    """The matrix that leads every vector of a length to itself."""
    return [tuple([int(column == row) for column in range(size)]) for row in range(size)]


def _space(prime, length, basis):
    """The space with a reduced basis."""
    return Space(prime, length, Reduced(basis))


def _reduced(prime, length, vectors):
    """The reduced basis for a list of vectors of a length."""
    if not is_list(vectors):
        raise InvalidVector(vectors)
    for vector in vectors:
        _check_vector(vector, length)
    return reduced(prime, vectors)
