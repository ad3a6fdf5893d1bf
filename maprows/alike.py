"""Whether two rows are the same but for coordinates, and how many rows there are."""

from maprows.claims import bar_claim
from maprows.counts import independent_lists, power
from maprows.rests import check_prime, is_list, is_matrix, joined
from maprows.rows import bars, check_alike, check_bar, check_pattern, check_sizes, low_sizes, way
from maprows.spaces import inverse_of
from maprows.threads import threads, vectors_at
from maprows.words import value


def carry(one, other):
    """Matrices, one for each place, that lead a row into another one and have inverses; or None."""
    check_alike(one, other)
    first, second = threads(one), threads(other)
    if _bars_told(first) != _bars_told(second):
        return None
    return [
        _change(one.prime, vectors_at(first, place), vectors_at(second, place)) for place in range(len(one))
    ]


def is_carry(one, other, told):
    """Whether a value is a carry of a row into another one."""
    check_alike(one, other)
    if not (is_list(told) and len(told) == len(one) and one.sizes == other.sizes):
        return False
    if not all([is_matrix(matrix, size, size) for matrix, size in zip(told, one.sizes)]):
        return False
    if not all([inverse_of(one.prime, matrix) is not None for matrix in told]):
        return False
    return all([_agrees(one, other, index, told) for index in range(len(one.pattern))])


def parting_word(one, other):
    """A word whose values in two rows have different dimensions, or None."""
    check_alike(one, other)
    first, second = _bars_told(threads(one)), _bars_told(threads(other))
    for bar in bars(one.pattern):
        if first.count(bar) != second.count(bar):
            return _word_for(bar, one, other)
    return None


def leads_into(pattern, bar, other):
    """Whether matrices that are not all zeros lead the row of a bar into that of another one."""
    check_pattern(pattern)
    check_bar(pattern, bar)
    check_bar(pattern, other)
    return _leads(pattern, bar, other)


def keepers(pattern, prime, numbers):
    """The number of the carries into itself of a row with some numbers."""
    check_pattern(pattern)
    check_prime(prime)
    low_sizes(pattern, numbers)
    return _keepers(pattern, prime, numbers)


def alike_count(pattern, prime, numbers):
    """The number of all rows with some numbers."""
    check_pattern(pattern)
    check_prime(prime)
    sizes = low_sizes(pattern, numbers)
    # Each change of coordinates leads a row to such a row, and just so many lead it to the same one.
    count = 1
    for size in sizes:
        count = count * independent_lists(prime, size, size)
    return count // _keepers(pattern, prime, numbers)


def row_count(pattern, prime, sizes):
    """The number of all rows with some sizes."""
    check_pattern(pattern)
    check_prime(prime)
    check_sizes(pattern, sizes)
    return power(prime, sum([sizes[index] * sizes[index + 1] for index in range(len(pattern))]))


def all_numbers(pattern, sizes):
    """The numbers of all rows with some sizes, in ascending order of the lists of their values."""
    check_pattern(pattern)
    check_sizes(pattern, sizes)
    told = bars(pattern)
    left = list(sizes)
    for values in _filling(left):
        yield {bar: number for bar, number in zip(told, values)}


def _bars_told(told):
    """The bars of threads, ascending."""
    return [bar for bar, _ in told]


def _change(prime, basis, other):
    """The matrix that leads the vectors of a basis to those of another one."""
    return joined(prime, inverse_of(prime, basis), other, len(other))


def _agrees(one, other, index, told):
    """Whether matrices lead a row into another one along an arrow."""
    start, goal = way(one.pattern, index)
    size = one.sizes[goal]
    first = joined(one.prime, one.matrix(index), told[goal], size)
    return first == joined(one.prime, told[start], other.matrix(index), size)


def _word_for(bar, one, other):
    """A word with unlike dimensions in two rows that do not have the same number of a bar."""
    # The numbers are sums of the dimensions of these words, so that they cannot all be the same.
    unlike = [
        word for _, word in bar_claim(one.pattern, bar).terms if len(value(word, one)) != len(value(word, other))
    ]
    return unlike[0]


def _leads(pattern, bar, other):
    """What leads_into tells, for bars of a pattern."""
    (begin, end), (birth, last) = bar, other
    low, high = max(begin, birth), min(end, last)
    if low > high:
        return False
    # What is 1 at one place is 1 at all places that both bars hold. Where the one bar goes on beyond them, its arrow
    # must lead away from them, and where the other one does, to them.
    left = begin == birth or pattern[low - 1] == ("<" if begin < birth else ">")
    return left and (end == last or pattern[high] == (">" if end > last else "<"))


def _keepers(pattern, prime, numbers):
    """What keepers tells, for numbers of rows."""
    told = [(bar, number) for bar, number in numbers.items() if number > 0]
    # A thread may take up any multiple of each thread of another bar into which its bar leads.
    free = sum([
        many * more for bar, many in told for other, more in told if bar != other and _leads(pattern, bar, other)
    ])
    count = power(prime, free)
    for _, many in told:
        count = count * independent_lists(prime, many, many)
    return count


def _filling(left):
    """All lists of numbers of the bars of some places, ascending, that fill just what is left of each place."""
    if len(left) == 0:
        yield []
    else:
        due = left[0]
        for ended in _shared(due, left):
            further = [size - sum(ended[place:]) for place, size in enumerate(left) if place > 0]
            for values in _filling(further):
                yield ended + values


def _shared(due, rooms):
    """All lists of numbers, ascending, with a sum, of which those from any place on are no more than its room."""
    if len(rooms) == 1:
        yield [due]
    else:
        further = rooms[1:]
        for share in range(max(0, due - further[0]), due + 1):
            rest = due - share
            for shares in _shared(rest, further):
                yield [share] + shares
