"""Tables of the ranks of rows whose arrows are all the same."""

from maprows.errors import InvalidTable, NegativeBar, NotOneWay
from maprows.rests import check_prime, is_integer, is_list
from maprows.rows import MOST, bars, row_with
from maprows.spaces import Space


def rank_table(row):
    """For each place a list of the ranks between it and each place from it on."""
    if ">" in row.pattern and "<" in row.pattern:
        raise NotOneWay(row.pattern)
    # The matrices of the dual row have the same ranks, so that all arrows may be taken to be `>`.
    onward = row.dual() if "<" in row.pattern else row
    return [_ranks_from(onward, start) for start in range(len(onward))]


def clash(table):
    """The first bar whose number by a table is below 0, or None."""
    _check_table(table)
    for bar in bars(_pattern_of(table)):
        if _number_by(table, bar) < 0:
            return bar
    return None


def is_rank_table(value):
    """Whether a value is the rank table of some row."""
    return _is_table(value) and clash(value) is None


def bars_of(table):
    """The numbers of the rows that have a rank table."""
    bar = clash(table)
    if bar is not None:
        raise NegativeBar(bar)
    return {told: _number_by(table, told) for told in bars(_pattern_of(table))}


def row_of_table(prime, table):
    """A row that has a rank table."""
    check_prime(prime)
    told = bars_of(table)
    return row_with(_pattern_of(table), prime, told)


def _ranks_from(row, start):
    """The dimensions of the spaces to which all vectors of a place are led at it and at each place behind it."""
    space = Space.whole(row.prime, row.sizes[start])
    ranks = [len(space)]
    for index in range(start, len(row.pattern)):
        space = space.image(row.matrix(index), row.sizes[index + 1])
        ranks.append(len(space))
    return ranks


def _is_table(value):
    """Whether a value is a table: lists of falling lengths of what may be ranks."""
    if not (is_list(value) and 1 <= len(value) <= MOST + 1):
        return False
    return all([
        is_list(ranks) and len(ranks) == len(value) - place and all([is_integer(rank, 0, MOST) for rank in ranks])
        for place, ranks in enumerate(value)
    ])


def _check_table(table):
    if not _is_table(table):
        raise InvalidTable(table)


def _pattern_of(table):
    """The pattern of the rows that a table may tell of."""
    return ">" * (len(table) - 1)


def _number_by(table, bar):
    """The number of a bar by a table."""
    first, last = bar
    inner = _value_at(table, first, last) - _value_at(table, first - 1, last)
    return inner - _value_at(table, first, last + 1) + _value_at(table, first - 1, last + 1)


def _value_at(table, first, last):
    """The table value of two places, of which the one or the other may stand beyond an end."""
    return 0 if first == -1 or last == len(table) else table[first][last - first]
