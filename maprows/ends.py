"""What the vectors at the two ends of a row know of one another."""

from maprows.errors import InvalidVector
from maprows.rests import is_vector, led, mixed
from maprows.rows import beside, check_numbers, check_pattern, way
from maprows.spaces import Space, factors_for


def relation(row):
    """The space of all vectors of place 0 followed by a vector of the last place that is related to it."""
    first = row.sizes[0]
    still = Space.whole(row.prime, first).basis()
    space = Space(row.prime, 2 * first, [vector + vector for vector in still])
    for index, arrow in enumerate(row.pattern):
        # Leads along the arrow what stands behind the vectors of place 0.
        width = row.sizes[way(row.pattern, index)[1]]
        matrix = beside(still, row.matrix(index), first, width)
        space = space.image(matrix, first + width) if arrow == ">" else space.back(matrix)
    return space


def related(row, vector, other):
    """Whether a vector of place 0 and a vector of the last place are related."""
    _check_vector(row, 0, vector)
    _check_vector(row, -1, other)
    return tuple(vector) + tuple(other) in relation(row)


def chain(row, vector, other):
    """The vectors of a chain from a vector of place 0 to one of the last place, or None."""
    _check_vector(row, 0, vector)
    _check_vector(row, -1, other)
    reached = _reached(row, vector)
    if reached is None or not _is_among(other, reached[-1]):
        return None
    found = [_taken(row.prime, other)]
    for index in range(len(row.pattern) - 1, -1, -1):
        found = [_ahead(row, index, reached[index], found[0])] + found
    return found


def leads_to(row, vector):
    """A vector of the last place to which a vector is related, and the space of the differences of such; or None."""
    _check_vector(row, 0, vector)
    reached = _reached(row, vector)
    return None if reached is None else reached[-1]


def relation_numbers(pattern, numbers):
    """How many bars hold all places, and the dimensions of what is related to zeros at the one end and the other."""
    check_pattern(pattern)
    check_numbers(pattern, numbers)
    last = len(pattern)
    # A thread from one end that stops within the row is led to zeros where it stops, or is not led on from there.
    first_lost = sum([numbers.get((0, end), 0) for end in range(last) if pattern[end] == ">"])
    last_lost = sum([numbers.get((birth, last), 0) for birth in range(1, last + 1) if pattern[birth - 1] == "<"])
    return numbers.get((0, last), 0), first_lost, last_lost


def _check_vector(row, place, vector):
    if not is_vector(vector, row.sizes[place]):
        raise InvalidVector(vector)


def _taken(prime, vector):
    """A vector with its items taken modulo a prime."""
    return tuple([item % prime for item in vector])


def _reached(row, vector):
    """For each place what chains that begin with a vector have there; None if they do not come to the last place.

    This is told as a tuple of one of these vectors and the space of their differences.
    """
    found = [(_taken(row.prime, vector), Space.nothing(row.prime, row.sizes[0]))]
    for index in range(len(row.pattern)):
        point, space = found[-1]
        further = _led_on(row, index, point, space)
        if further is None:
            return None
        found.append(further)
    return found


def _led_on(row, index, point, space):
    """What chains have behind an arrow that have a point and a space of differences ahead of it; or None."""
    matrix = row.matrix(index)
    if row.pattern[index] == ">":
        width = row.sizes[index + 1]
        return led(row.prime, point, matrix, width), space.image(matrix, width)
    # What the arrow leads from behind it, and a vector of the space, must add up to the point.
    factors = factors_for(row.prime, matrix + space.basis(), point)
    if factors is None:
        return None
    return tuple(factors[:len(matrix)]), space.back(matrix)


def _is_among(vector, reached):
    """Whether a vector is among those with a point and a space of differences."""
    point, space = reached
    return [item - less for item, less in zip(vector, point)] in space


def _ahead(row, index, reached, vector):
    """What a chain has ahead of an arrow, among what is reached there, if it has a vector behind it."""
    matrix = row.matrix(index)
    if row.pattern[index] == "<":
        return led(row.prime, vector, matrix, row.sizes[index])
    point, space = reached
    rows, width = space.basis(), len(vector)
    short = [item - less for item, less in zip(vector, led(row.prime, point, matrix, width))]
    factors = factors_for(row.prime, [led(row.prime, moved, matrix, width) for moved in rows], short)
    return mixed(row.prime, [1] + factors, [point] + rows, len(point))
