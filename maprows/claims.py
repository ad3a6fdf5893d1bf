"""Claims: sums of dimensions of words, of which it is said that they are at least 0."""

from maprows.errors import InvalidTerms
from maprows.plain import births, by_births, by_ends, ends, marked, met
from maprows.rests import is_list, is_number
from maprows.rows import bars, check_bar, check_numbers, check_pattern
from maprows.threads import threads
from maprows.words import Word


class Claim:
    """A sum of dimensions of words, each times an integer, that is said to be at least 0."""

    def __init__(self, terms):
        if not is_list(terms):
            raise InvalidTerms(terms)
        for item in terms:
            if not _is_term(item):
                raise InvalidTerms(item)
        self._terms = tuple(terms)

    @property
    def terms(self):
        """The tuple of the terms, each an integer and a word."""
        return self._terms

    def fits(self, pattern):
        """Whether all words of the claim fit a pattern."""
        check_pattern(pattern)
        return all([word.fits(pattern) for _, word in self._terms])

    def on(self, row):
        """The sum in a row."""
        # The dimension of a word in a row is the sum of those in the rows of the bars that take the row apart.
        sums = self.on_bars(row.pattern)
        return sum([sums[bar] for bar, _ in threads(row)])

    def on_bars(self, pattern):
        """The sum in the row of each bar of a pattern."""
        told = marked(pattern, [word for _, word in self._terms])
        return {
            bar: sum([factor * (bits >> index & 1) for (factor, _), bits in zip(self._terms, told)])
            for index, bar in enumerate(bars(pattern))
        }

    def total(self, pattern, numbers):
        """The sum in the rows of a pattern with some numbers."""
        check_pattern(pattern)
        check_numbers(pattern, numbers)
        sums = self.on_bars(pattern)
        return sum([sums[bar] * number for bar, number in numbers.items()])

    def __eq__(self, other):
        return isinstance(other, Claim) and self._terms == other._terms

    def __add__(self, other):
        return Claim(self._terms + other.terms)

    def __sub__(self, other):
        return Claim(self._terms + _times(other.terms, -1))

    def __neg__(self):
        return Claim(_times(self._terms, -1))

    def __mul__(self, other):
        return Claim(_times(self._terms, other))


def holds(pattern, claim):
    """Whether the sum of a claim is at least 0 in all rows of a pattern."""
    return refuting(pattern, claim) is None


def refuting(pattern, claim):
    """The first bar in whose row the sum of a claim is below 0, or None."""
    sums = claim.on_bars(pattern)
    for bar in bars(pattern):
        if sums[bar] < 0:
            return bar
    return None


def likewise(pattern, one, other):
    """The first bar in whose row the sums of two claims differ, or None."""
    first, second = one.on_bars(pattern), other.on_bars(pattern)
    for bar in bars(pattern):
        if first[bar] != second[bar]:
            return bar
    return None


def bar_claim(pattern, bar):
    """A claim whose sum in each row of a pattern is the number of a bar in this row."""
    check_pattern(pattern)
    check_bar(pattern, bar)
    place, end = bar
    begun, ended = by_births(pattern, place), by_ends(pattern, place)
    # How many births and how many ends are below those of the bar.
    low, near = births(pattern, place).index(place), ends(pattern, place).index(end)
    # The bars of which neither the birth nor the end is above, less those of which one of the two is below.
    corners = [(1, low + 1, near + 1), (-1, low, near + 1), (-1, low + 1, near), (1, low, near)]
    return Claim([(sign, met(begun[one], ended[other])) for sign, one, other in corners if one > 0 and other > 0])


def _is_term(item):
    """Whether a value is a tuple of an integer and a word."""
    return isinstance(item, tuple) and len(item) == 2 and is_number(item[0]) and isinstance(item[1], Word)


def _times(terms, number):
    """Terms with each factor times an integer."""
    return tuple([(factor * number, word) for factor, word in terms])
