"""The exceptions of the package; each keeps the very values with which it is created."""


class RowError(ValueError):
    """What all exceptions of the package are."""


class InvalidPrime(RowError):
    """No prime stands where one is asked for."""

    def __init__(self, value):
        self.value = value


class NoInverse(RowError):
    """A number has no inverse modulo a prime."""

    def __init__(self, value):
        self.value = value


class InvalidSize(RowError):
    """No size within its bounds stands where one is asked for."""

    def __init__(self, value):
        self.value = value


class InvalidVector(RowError):
    """No vector, or no list of vectors, stands where one is asked for."""

    def __init__(self, value):
        self.value = value


class InvalidMatrix(RowError):
    """No matrix of the right height and width stands where one is asked for."""

    def __init__(self, value):
        self.value = value


class InvalidPattern(RowError):
    """No pattern stands where one is asked for."""

    def __init__(self, value):
        self.value = value


class InvalidPlace(RowError):
    """No place, or no number of an arrow, stands where one is asked for."""

    def __init__(self, value):
        self.value = value


class InvalidBar(RowError):
    """No bar of the pattern stands where one is asked for."""

    def __init__(self, value):
        self.value = value


class InvalidSizes(RowError):
    """No list of a size for each place stands where one is asked for."""

    def __init__(self, value):
        self.value = value


class InvalidMaps(RowError):
    """No list of a matrix for each arrow stands where one is asked for."""

    def __init__(self, value):
        self.value = value


class InvalidNumbers(RowError):
    """No dict of numbers for the pattern stands where one is asked for."""

    def __init__(self, value):
        self.value = value


class InvalidText(RowError):
    """No text of a row or of a word stands where one is asked for."""

    def __init__(self, value):
        self.value = value


class InvalidTerms(RowError):
    """No list of terms, or no term, stands where one is asked for."""

    def __init__(self, value):
        self.value = value


class InvalidTable(RowError):
    """No table stands where one is asked for."""

    def __init__(self, value):
        self.value = value


class InvalidNumber(RowError):
    """No number within its bounds stands where one is asked for."""

    def __init__(self, value):
        self.value = value


class InvalidArrow(RowError):
    """No arrow stands where one is asked for."""

    def __init__(self, value):
        self.value = value


class InvalidName(RowError):
    """No name stands where one is asked for."""

    def __init__(self, value):
        self.value = value


class InvalidLine(RowError):
    """No line of a console stands where one is asked for."""

    def __init__(self, value):
        self.value = value


class NotFitting(RowError):
    """A word does not fit a pattern."""

    def __init__(self, value):
        self.value = value


class NotOneWay(RowError):
    """A pattern has arrows of both kinds where all must be the same."""

    def __init__(self, value):
        self.value = value


class NegativeBar(RowError):
    """A bar has a number below 0 by a table."""

    def __init__(self, bar):
        self.bar = bar


class TooLarge(RowError):
    """A size or a number of arrows is above its bound."""

    def __init__(self, value):
        self.value = value


class UnlikeSpaces(RowError):
    """Two spaces do not have the same prime and length."""

    def __init__(self):
        RowError.__init__(self)


class UnlikePlaces(RowError):
    """Two words have different places."""

    def __init__(self):
        RowError.__init__(self)


class UnlikeRows(RowError):
    """Two rows do not have the same pattern and prime."""

    def __init__(self):
        RowError.__init__(self)


class NotWithin(RowError):
    """A space does not lie in another one."""

    def __init__(self):
        RowError.__init__(self)


class NameTaken(RowError):
    """A row is kept under a name already."""

    def __init__(self, name):
        self.name = name


class UnknownName(RowError):
    """No row is kept under a name."""

    def __init__(self, name):
        self.name = name


class NothingToUndo(RowError):
    """There is no deed that can be taken back."""

    def __init__(self):
        RowError.__init__(self)


class NothingToRedo(RowError):
    """There is no deed that can be done again."""

    def __init__(self):
        RowError.__init__(self)
