"""Streams: rows that grow at their right end, of which deeds can be taken back."""

from maprows.errors import InvalidNumber, NothingToRedo, NothingToUndo
from maprows.growing import grown, numbers_after
from maprows.rests import check_prime, is_integer
from maprows.rows import Row, check_size
from maprows.threads import numbers, threads


class Stream:
    """A row that grows at its right end and is cut off at its left one."""

    def __init__(self, prime, size):
        check_prime(prime)
        check_size(size)
        self._row = Row("", prime, [size], [])
        # The rows ahead of the deeds that can be taken back, and those behind the deeds that can be done again; the row
        # that is due next stands last.
        self._past = ()
        self._undone = ()

    def row(self):
        """The present row."""
        return self._row

    def __len__(self):
        return len(self._row)

    def numbers(self):
        """The numbers of the present row."""
        return numbers(self._row)

    def lasting(self):
        """The births of the bars that hold the last place, ascending, each as often as there are such threads."""
        last = len(self._row) - 1
        return [birth for (birth, end), _ in threads(self._row) if end == last]

    def outlook(self, arrow, size):
        """The numbers that the row can have behind one more arrow, ascending by the lists of their values."""
        pattern = self._row.pattern
        counts = numbers(self._row)
        yield from numbers_after(pattern, counts, arrow, size)

    def grow(self, arrow, size, matrix):
        """Put one more place with an arrow at the right end."""
        self._do(grown(self._row, arrow, size, matrix))

    def cut(self, count):
        """Take so many places away at the left end."""
        last = len(self._row) - 1
        if not is_integer(count, 1, last):
            raise InvalidNumber(count)
        self._do(self._row.part(count, last))

    def undo(self):
        """Take the last deed back."""
        if len(self._past) == 0:
            raise NothingToUndo()
        self._undone = self._undone + (self._row,)
        self._row = self._past[-1]
        self._past = self._past[:-1]

    def redo(self):
        """Do the deed again that was taken back last."""
        if len(self._undone) == 0:
            raise NothingToRedo()
        self._past = self._past + (self._row,)
        self._row = self._undone[-1]
        self._undone = self._undone[:-1]

    @property
    def undoable(self):
        """The number of the deeds that can be taken back."""
        return len(self._past)

    @property
    def redoable(self):
        """The number of the deeds that can be done again."""
        return len(self._undone)

    def trial(self):
        """An object for a block behind which the stream is what it was ahead of it."""
        return Trial(self)

    def tried(self, act):
        """What a function returns for the stream, called within such a block."""
        with self.trial() as held:
            return act(held)

    def _do(self, row):
        self._past = self._past + (self._row,)
        self._row = row
        self._undone = ()


class Trial:
    """A block behind which a stream is what it was ahead of it."""

    def __init__(self, stream):
        self._stream = stream
        self._row = None
        self._past = None
        self._undone = None

    def __enter__(self):
        self._row = self._stream._row
        self._past = self._stream._past
        self._undone = self._stream._undone
        return self._stream

    def __exit__(self, kind, value, trace):
        self._stream._row = self._row
        self._stream._past = self._past
        self._stream._undone = self._undone
