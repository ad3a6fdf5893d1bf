"""Integers modulo a prime, and matrices over them."""

from maprows.errors import InvalidMatrix, InvalidPrime, InvalidVector, NoInverse

# For each prime the integers whose products with 0, 1, 2 and so on are 1 modulo it; 0 stands where there is none.
INVERSES = {
    2: (0, 1),
    3: (0, 1, 2),
    5: (0, 1, 3, 2, 4),
    7: (0, 1, 4, 5, 2, 3, 6),
    11: (0, 1, 6, 4, 3, 9, 2, 8, 7, 5, 10),
    13: (0, 1, 7, 9, 10, 8, 11, 2, 5, 3, 4, 6, 12),
}


def is_number(value):
    """Whether a value is an integer, of any size."""
    # True and False are of the class int, too.
    return isinstance(value, int) and not isinstance(value, bool)


def is_integer(value, low=None, high=None):
    """Whether a value is an integer within the bounds that are told."""
    if not is_number(value):
        return False
    if is_number(low) and value < low:
        return False
    return not (is_number(high) and value > high)


def is_prime(value):
    """Whether a value is one of the primes with which the package calculates."""
    return is_number(value) and value in INVERSES


def check_prime(prime):
    """Raise InvalidPrime unless a value is a prime."""
    if not is_prime(prime):
        raise InvalidPrime(prime)


def inverse(number, prime):
    """The integer from 1 to the prime minus 1 whose product with a number is 1 modulo the prime."""
    check_prime(prime)
    if not is_number(number) or number % prime == 0:
        raise NoInverse(number)
    return INVERSES[prime][number % prime]


def is_list(value):
    """Whether a value may stand where a list or a vector is asked for."""
    return isinstance(value, (list, tuple))


def is_vector(value, length):
    """Whether a value is a vector of a length."""
    # What is_number asks is written out, since it is asked of each item of each matrix.
    return is_list(value) and len(value) == length and all([
        isinstance(item, int) and not isinstance(item, bool) for item in value
    ])


def is_matrix(value, height, width):
    """Whether a value is a matrix of a height and a width."""
    return is_list(value) and len(value) == height and all([is_vector(row, width) for row in value])


def has_width(value, width):
    """Whether a value is a matrix of a width and of any height."""
    return is_list(value) and is_matrix(value, len(value), width)


def mixed(prime, factors, rows, width):
    """The sum of rows of a width, each times its factor, modulo the prime."""
    total = [0] * width
    for factor, row in zip(factors, rows):
        if factor != 0:
            total = [item + factor * more for item, more in zip(total, row)]
    return tuple([item % prime for item in total])


def led(prime, vector, matrix, width):
    """The vector to which a matrix of a width leads a vector."""
    check_prime(prime)
    if not (is_list(vector) and is_vector(vector, len(vector))):
        raise InvalidVector(vector)
    if not is_matrix(matrix, len(vector), width):
        raise InvalidMatrix(matrix)
    return mixed(prime, vector, matrix, width)


def joined(prime, one, other, width):
    """The matrix that leads as the matrix `one` and then the matrix `other`, of a width."""
    check_prime(prime)
    # Only the height of `other` tells which width `one` must have.
    if not has_width(other, width):
        raise InvalidMatrix(other)
    if not has_width(one, len(other)):
        raise InvalidMatrix(one)
    return [mixed(prime, row, other, width) for row in one]


def exchanged(prime, matrix, width):
    """The matrix whose rows are the columns of a matrix of a width."""
    check_prime(prime)
    if not has_width(matrix, width):
        raise InvalidMatrix(matrix)
    return [tuple([row[column] % prime for row in matrix]) for column in range(width)]
