"""Rows with one more map: which bars it can leave, and in how many ways."""

from maprows.counts import independent_lists, power, spaces_within
from maprows.errors import InvalidArrow, TooLarge
from maprows.plain import births
from maprows.rests import check_prime
from maprows.rows import MOST, Row, TURNED, bars, check_pattern, check_size, low_sizes


def grown(row, arrow, size, matrix):
    """The row with one more arrow and one more place at its right end."""
    _check_arrow(row.pattern, arrow)
    check_size(size)
    return Row(row.pattern + arrow, row.prime, row.sizes + (size,), row.maps() + [matrix])


def numbers_after(pattern, numbers, arrow, size):
    """The numbers that rows with some numbers can have behind one more arrow, ascending by the lists of values."""
    check_pattern(pattern)
    low_sizes(pattern, numbers)
    _check_arrow(pattern, arrow)
    check_size(size)
    reaching = _reaching(numbers, len(pattern), len(pattern))
    for ended in _choices(reaching):
        # Of the threads that reach the end of the row, any may end, if there is room for the others.
        room = size - sum(reaching) + sum(ended)
        if room >= 0:
            yield _told(pattern + arrow, numbers, ended, room)


def ways_after(pattern, prime, numbers, arrow, after):
    """The number of the matrices with which a row with some numbers comes to a row with others."""
    check_pattern(pattern)
    check_prime(prime)
    low_sizes(pattern, numbers)
    _check_arrow(pattern, arrow)
    size = low_sizes(pattern + arrow, after)[-1]
    if not _begins(pattern, numbers, after):
        return 0
    last = len(pattern)
    ended, kept = _reaching(after, last, last), _reaching(after, last, last + 1)
    order = births(pattern, last)
    # A matrix is told by a space at the old place, that of the vectors that it leads to zeros or of those to which it
    # leads any, and by a list of vectors of which none is a sum of multiples of the others.
    inside, left = (ended, kept) if arrow == ">" else (kept, ended)
    positions = _positions(prime, [inside[birth] for birth in order], [left[birth] for birth in order])
    return positions * independent_lists(prime, sum(kept), size)


def _check_arrow(pattern, arrow):
    """Raise InvalidArrow or TooLarge unless a value is an arrow that may be put behind a pattern."""
    if not (isinstance(arrow, str) and arrow in TURNED):
        raise InvalidArrow(arrow)
    if len(pattern) == MOST:
        raise TooLarge(MOST + 1)


def _reaching(numbers, place, end):
    """For each birth up to a place the number of the bar with an end."""
    return [numbers.get((birth, end), 0) for birth in range(place + 1)]


def _choices(most):
    """All lists of integers from 0 to those of a list, ascending."""
    count = 1
    for number in most:
        count = count * (number + 1)
    for index in range(count):
        choice, rest = [], index
        for number in most[::-1]:
            choice = [rest % (number + 1)] + choice
            rest = rest // (number + 1)
        yield choice


def _told(longer, numbers, ended, born):
    """The numbers of a longer row of which some threads, told by their births, end behind its beginning."""
    end = len(longer)
    told = {bar: numbers.get(bar, 0) for bar in bars(longer)}
    for birth, number in enumerate(ended):
        told[birth, end] = told[birth, end - 1] - number
        told[birth, end - 1] = number
    told[end, end] = born
    return told


def _begins(pattern, numbers, after):
    """Whether rows with one more arrow and some numbers have others at their beginning."""
    last = len(pattern)
    for birth, end in bars(pattern):
        found = after.get((birth, end), 0)
        if end == last:
            found = found + after.get((birth, last + 1), 0)
        if found != numbers.get((birth, end), 0):
            return False
    return True


def _positions(prime, inside, left):
    """The number of the spaces that stand alike to some spaces, each of which lies in the next one.

    By so many dimensions as two lists tell together each of these is greater than the one ahead of it: the vectors of
    it that are in the space gain those that `inside` tells.
    """
    count = 1
    for at, more in enumerate(inside):
        # Each vector that is gained may take up any vectors ahead that are not in the space.
        free = more * sum(left[:at])
        count = count * spaces_within(prime, more, more + left[at]) * power(prime, free)
    return count
