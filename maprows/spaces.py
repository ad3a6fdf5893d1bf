"""Spaces of vectors modulo a prime, held by their reduced bases."""

from maprows.errors import InvalidMatrix, InvalidSize, InvalidVector, NotWithin, UnlikeSpaces
from maprows.rests import check_prime, has_width, inverse, is_integer, is_list, is_matrix, is_vector, joined, mixed

# No vector of a space is longer, and no matrix that is taken back or apart is higher.
MOST = 12


class Space:
    """All sums of multiples of some vectors of one length."""

    def __init__(self, prime, length, vectors=()):
        check_prime(prime)
        _check_size(length)
        if not is_list(vectors):
            raise InvalidVector(vectors)
        for vector in vectors:
            _check_vector(vector, length)
        self._prime = prime
        self._length = length
        self._rows = tuple(_reduced(prime, vectors))

    @classmethod
    def nothing(cls, prime, length):
        """The space with the vector of zeros alone."""
        return cls(prime, length)

    @classmethod
    def whole(cls, prime, length):
        """The space of all vectors of a length."""
        check_prime(prime)
        _check_size(length)
        return cls(prime, length, _units(length))

    @property
    def prime(self):
        """The prime modulo which the space calculates."""
        return self._prime

    @property
    def length(self):
        """The length of the vectors."""
        return self._length

    def basis(self):
        """The list of the vectors of the reduced basis."""
        return list(self._rows)

    def __len__(self):
        return len(self._rows)

    def __eq__(self, other):
        return (
            isinstance(other, Space) and self._prime == other._prime
            and self._length == other._length and self._rows == other._rows
        )

    def __contains__(self, x):
        return _lead(self.rest(x)) is None

    def rest(self, vector):
        """The vector less that vector of the space that leaves 0 where the basis has its leading items."""
        _check_vector(vector, self._length)
        return _rest(self._prime, self._rows, vector)

    def lies_in(self, other):
        """Whether all vectors of the space are in another one."""
        _check_alike(self, other)
        return all([_lead(_rest(self._prime, other._rows, row)) is None for row in self._rows])

    def __add__(self, other):
        _check_alike(self, other)
        return Space(self._prime, self._length, self._rows + other._rows)

    def __and__(self, other):
        _check_alike(self, other)
        # A sum of multiples of our basis is in the other space exactly if the same sum of the rests is zeros.
        rests = [_rest(self._prime, other._rows, row) for row in self._rows]
        factors = _relations(self._prime, rests, self._length)
        return Space(self._prime, self._length, joined(self._prime, factors, self._rows, self._length))

    def image(self, matrix, width):
        """The space of the vectors to which a matrix of a width leads those of this space."""
        _check_size(width)
        if not is_matrix(matrix, self._length, width):
            raise InvalidMatrix(matrix)
        return Space(self._prime, width, joined(self._prime, self._rows, matrix, width))

    def back(self, matrix):
        """The space of the vectors that a matrix leads into this space."""
        _check_low(matrix, self._length)
        rests = [_rest(self._prime, self._rows, row) for row in matrix]
        return Space(self._prime, len(matrix), _relations(self._prime, rests, self._length))


def extension(inner, outer):
    """Vectors that together with a basis of a space are a basis of one in which it lies."""
    _check_alike(inner, outer)
    if not inner.lies_in(outer):
        raise NotWithin()
    # The rests of all vectors of the outer space are a space that meets the inner one in zeros only.
    return Space(inner.prime, inner.length, [inner.rest(row) for row in outer.basis()]).basis()


def factors_for(prime, rows, vector):
    """Factors with which rows add up to a vector, or None."""
    check_prime(prime)
    if not (is_list(vector) and len(vector) <= MOST and is_vector(vector, len(vector))):
        raise InvalidVector(vector)
    width = len(vector)
    _check_low(rows, width)
    rest = _rest(prime, _reduced(prime, _marked(rows)), tuple(vector) + (0,) * len(rows))
    if _lead(rest[:width]) is not None:
        return None
    return [-item % prime for item in rest[width:]]


def inverse_of(prime, matrix):
    """The matrix that leads back what a matrix leads, or None."""
    check_prime(prime)
    if not is_list(matrix):
        raise InvalidMatrix(matrix)
    size = len(matrix)
    _check_low(matrix, size)
    reduced = _reduced(prime, _marked(matrix))
    if [row[:size] for row in reduced] != _units(size):
        return None
    return [row[size:] for row in reduced]


def _check_size(size):
    if not is_integer(size, 0, MOST):
        raise InvalidSize(size)


def _check_vector(vector, length):
    if not is_vector(vector, length):
        raise InvalidVector(vector)


def _check_low(matrix, width):
    """Raise InvalidMatrix unless a value is a matrix of a width and a height for which there is a space."""
    if not (has_width(matrix, width) and len(matrix) <= MOST):
        raise InvalidMatrix(matrix)


def _check_alike(one, other):
    if not (isinstance(one, Space) and isinstance(other, Space)):
        raise UnlikeSpaces()
    if one.prime != other.prime or one.length != other.length:
        raise UnlikeSpaces()


def _units(size):
    """The matrix that leads every vector of a length to itself."""
    return [tuple([int(column == row) for column in range(size)]) for row in range(size)]


def _marked(rows):
    """Rows, each with a unit vector behind it: what is done to them is then kept there as factors."""
    return [tuple(row) + unit for row, unit in zip(rows, _units(len(rows)))]


def _lead(row):
    """The index of the first item other than 0, or None."""
    for index, item in enumerate(row):
        if item != 0:
            return index
    return None


def _rest(prime, basis, vector):
    """What a reduced basis leaves of a vector."""
    factors = [-vector[_lead(row)] for row in basis]
    return mixed(prime, [1, *factors], [vector, *basis], len(vector))


def _widened(prime, basis, vector):
    """A reduced basis, in any order, of the space to which a vector is added."""
    rest = _rest(prime, basis, vector)
    lead = _lead(rest)
    if lead is None:
        return basis
    added = mixed(prime, [inverse(rest[lead], prime)], [rest], len(rest))
    return [_rest(prime, [added], row) for row in basis] + [added]


def _reduced(prime, vectors):
    """The reduced basis of the space of all sums of multiples of vectors."""
    basis = []
    for vector in vectors:
        basis = _widened(prime, basis, vector)
    # Of two vectors of a reduced basis, the one that begins further to the left is the greater one.
    return sorted(basis, reverse=True)


def _relations(prime, rows, width):
    """A basis of the space of all factors with which rows of a width add up to zeros."""
    return [row[width:] for row in _reduced(prime, _marked(rows)) if _lead(row) >= width]
