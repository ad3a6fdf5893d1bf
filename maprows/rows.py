"""Patterns, bars, and rows of linear maps."""

from maprows.errors import (
    InvalidBar, InvalidMaps, InvalidMatrix, InvalidNumbers, InvalidPattern, InvalidPlace, InvalidSize, InvalidSizes,
    InvalidText, RowError, TooLarge, UnlikeRows,
)
from maprows.rests import check_prime, exchanged, is_integer, is_list, is_matrix

# The most that a place may have as its size, a pattern as its arrows, and a bar as its number.
MOST = 6

# Each arrow and what it is when it is turned about.
TURNED = {">": "<", "<": ">"}

# All numbers that stand in the text of a row, as they are written there.
WRITTEN = {
    "0": 0, "1": 1, "2": 2, "3": 3, "4": 4, "5": 5, "6": 6, "7": 7, "8": 8, "9": 9, "10": 10, "11": 11, "12": 12,
    "13": 13,
}


def is_pattern(value):
    """Whether a value is a pattern: at most six arrows."""
    return isinstance(value, str) and len(value) <= MOST and all([arrow in TURNED for arrow in value])


def check_pattern(pattern):
    """Raise InvalidPattern unless a value is a pattern."""
    if not is_pattern(pattern):
        raise InvalidPattern(pattern)


def bars(pattern):
    """All bars of a pattern, ascending."""
    check_pattern(pattern)
    places = range(len(pattern) + 1)
    return [(first, last) for first in places for last in places if first <= last]


def is_bar(pattern, value):
    """Whether a value is a bar of a pattern."""
    if not (isinstance(value, tuple) and len(value) == 2):
        return False
    first, last = value
    return is_integer(first, 0, len(pattern)) and is_integer(last, first, len(pattern))


def check_bar(pattern, bar):
    """Raise InvalidBar unless a value is a bar of a pattern."""
    if not is_bar(pattern, bar):
        raise InvalidBar(bar)


def check_size(size):
    """Raise InvalidSize unless a value is a size of a place."""
    if not is_integer(size, 0, MOST):
        raise InvalidSize(size)


def check_sizes(pattern, sizes):
    """Raise InvalidSizes unless a value is a list of a size for each place of a pattern."""
    if not (is_list(sizes) and len(sizes) == len(pattern) + 1 and all([is_integer(size, 0, MOST) for size in sizes])):
        raise InvalidSizes(sizes)


def check_numbers(pattern, numbers):
    """Raise InvalidNumbers unless a value is a dict of numbers for a pattern."""
    if not isinstance(numbers, dict):
        raise InvalidNumbers(numbers)
    if not all([is_bar(pattern, bar) and is_integer(number, 0, MOST) for bar, number in numbers.items()]):
        raise InvalidNumbers(numbers)


def check_low(sizes):
    """Raise TooLarge with the first size that no place may have."""
    for size in sizes:
        if size > MOST:
            raise TooLarge(size)


def low_sizes(pattern, numbers):
    """The sizes of the places of the rows with some numbers; raises unless these are numbers of some row."""
    check_numbers(pattern, numbers)
    sizes = [
        sum([number for (first, last), number in numbers.items() if first <= place <= last])
        for place in range(len(pattern) + 1)
    ]
    check_low(sizes)
    return sizes


def check_alike(one, other):
    """Raise UnlikeRows unless two values are rows with the same pattern and prime."""
    if not (isinstance(one, Row) and isinstance(other, Row)):
        raise UnlikeRows()
    if one.pattern != other.pattern or one.prime != other.prime:
        raise UnlikeRows()


def way(pattern, index):
    """The place from which an arrow leads, and the place to which it leads."""
    return (index, index + 1) if pattern[index] == ">" else (index + 1, index)


class Row:
    """A row of linear maps: a size for each place, and a matrix for each arrow between two of them."""

    def __init__(self, pattern, prime, sizes, maps):
        check_pattern(pattern)
        check_prime(prime)
        check_sizes(pattern, sizes)
        _check_maps(pattern, sizes, maps)
        self._pattern = pattern
        self._prime = prime
        self._sizes = tuple(sizes)
        self._maps = tuple([
            tuple([tuple([item % prime for item in vector]) for vector in matrix]) for matrix in maps
        ])

    @property
    def pattern(self):
        """The arrows of the row."""
        return self._pattern

    @property
    def prime(self):
        """The prime modulo which the row calculates."""
        return self._prime

    @property
    def sizes(self):
        """The sizes of the places, as a tuple."""
        return self._sizes

    def maps(self):
        """The matrices of the arrows."""
        return [list(matrix) for matrix in self._maps]

    def matrix(self, index):
        """The matrix of an arrow."""
        if not is_integer(index, 0, len(self._maps) - 1):
            raise InvalidPlace(index)
        return list(self._maps[index])

    def __len__(self):
        return len(self._sizes)

    def __eq__(self, other):
        return (
            isinstance(other, Row) and self._pattern == other._pattern and self._prime == other._prime
            and self._sizes == other._sizes and self._maps == other._maps
        )

    def __add__(self, other):
        check_alike(self, other)
        sizes = [size + more for size, more in zip(self._sizes, other._sizes)]
        check_low(sizes)
        goals = [way(self._pattern, index)[1] for index in range(len(self._pattern))]
        return Row(self._pattern, self._prime, sizes, [
            beside(matrix, more, self._sizes[goal], other._sizes[goal])
            for matrix, more, goal in zip(self._maps, other._maps, goals)
        ])

    def part(self, first, last):
        """The row of the places from one to another."""
        if not is_integer(first, 0, len(self._pattern)):
            raise InvalidPlace(first)
        if not is_integer(last, first, len(self._pattern)):
            raise InvalidPlace(last)
        return Row(self._pattern[first:last], self._prime, self._sizes[first:last + 1], self._maps[first:last])

    def turned(self):
        """The row as seen from its other end."""
        return Row(_about(self._pattern[::-1]), self._prime, self._sizes[::-1], self._maps[::-1])

    def dual(self):
        """The row in which each arrow is turned about, and rows and columns of its matrix are exchanged."""
        return Row(_about(self._pattern), self._prime, self._sizes, [
            exchanged(self._prime, matrix, self._sizes[way(self._pattern, index)[1]])
            for index, matrix in enumerate(self._maps)
        ])

    def text(self):
        """The row as a text, from which read_row makes it again."""
        arrows = [f" {arrow} {size}" for arrow, size in zip(self._pattern, self._sizes[1:])]
        matrices = [f"; {_matrix_text(matrix)}" for matrix in self._maps]
        return f"{self._prime}: {self._sizes[0]}" + "".join(arrows) + "".join(matrices)


def bar_row(pattern, prime, bar):
    """The row of a bar."""
    check_pattern(pattern)
    check_prime(prime)
    check_bar(pattern, bar)
    return row_with(pattern, prime, {bar: 1})


def row_with(pattern, prime, numbers):
    """The row of rows of bars beside one another, each bar as often as numbers tell."""
    check_pattern(pattern)
    check_prime(prime)
    sizes = low_sizes(pattern, numbers)
    told = [bar for bar in bars(pattern) for _ in range(numbers.get(bar, 0))]
    # Each place has an item in its vectors for each of the told bars that hold it, in their order.
    held = [
        [index for index, (first, last) in enumerate(told) if first <= place <= last] for place in range(len(sizes))
    ]
    ways = [way(pattern, index) for index in range(len(pattern))]
    return Row(pattern, prime, sizes, [_same_items(held[start], held[goal]) for start, goal in ways])


def read_row(text):
    """The row with a text."""
    row = _row_told(text) if isinstance(text, str) else None
    # Spaces, signs or zeros may have been passed over: just one text is that of the row.
    if row is None or row.text() != text:
        raise InvalidText(text)
    return row


def _row_told(text):
    """The row that a text tells, if perhaps in other words than the row's own; or None."""
    head, *matrices = text.split("; ")
    prime, _, places = head.partition(": ")
    words = places.split(" ")
    sizes = [WRITTEN.get(word) for word in words[::2]]
    pattern = "".join(words[1::2])
    try:
        check_sizes(pattern, sizes)
        starts = [way(pattern, index)[0] for index in range(len(pattern))]
        maps = [_matrix_told(matrix, sizes[start]) for matrix, start in zip(matrices, starts)]
        return Row(pattern, WRITTEN.get(prime), sizes, maps)
    except RowError:
        return None


def _matrix_told(text, height):
    """The matrix of a height that a text tells; where it tells no number, None stands in the matrix."""
    if text == "-":
        return [()] * height
    return [[WRITTEN.get(word) for word in row.split(" ")] for row in text.split(", ")]


def _matrix_text(matrix):
    rows = [" ".join([str(item) for item in row]) for row in matrix]
    return ", ".join(rows) if "".join(rows) != "" else "-"


def _check_maps(pattern, sizes, maps):
    if not (is_list(maps) and len(maps) == len(pattern)):
        raise InvalidMaps(maps)
    for index, matrix in enumerate(maps):
        start, goal = way(pattern, index)
        if not is_matrix(matrix, sizes[start], sizes[goal]):
            raise InvalidMatrix(matrix)


def beside(one, other, width, more):
    """The matrix that leads the vectors of a matrix of a width, and those of one of another width behind them."""
    return [tuple(row) + (0,) * more for row in one] + [(0,) * width + tuple(row) for row in other]


def _same_items(rows, columns):
    """The matrix with 1 where the number of a row is the number of a column."""
    return [tuple([int(row == column) for column in columns]) for row in rows]


def _about(pattern):
    """A pattern with each of its arrows turned about."""
    return "".join([TURNED[arrow] for arrow in pattern])
