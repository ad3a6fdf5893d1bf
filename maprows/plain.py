"""What words mean in all rows of a pattern, and a plain word for each meaning."""

from math import comb

from maprows.errors import InvalidNumber, InvalidPlace, UnlikePlaces
from maprows.rests import is_integer
from maprows.rows import bars, check_pattern
from maprows.words import Word, check_fitting, folded, leads_along


def marks(pattern, word):
    """The dimension, 0 or 1, of the value of a word in the row of each bar."""
    bits = marked(pattern, [word])[0]
    return {bar: bits >> index & 1 for index, bar in enumerate(bars(pattern))}


def same(pattern, one, other):
    """Whether two words have the same value in all rows of a pattern."""
    return parting(pattern, one, other) is None


def within(pattern, one, other):
    """Whether the value of one word is contained in that of another one in all rows of a pattern."""
    return breach(pattern, one, other) is None


def parting(pattern, one, other):
    """The first bar in whose row the values of two words differ, or None."""
    first, second = _marked_alike(pattern, one, other)
    return _first_bar(pattern, first ^ second)


def breach(pattern, one, other):
    """The first bar in whose row the value of one word is not contained in that of another one, or None."""
    first, second = _marked_alike(pattern, one, other)
    return _first_bar(pattern, first & (first ^ second))


def births(pattern, place):
    """The places at which bars that hold a place can begin, from the bottom to the top."""
    _check_place(pattern, place)
    order = [0]
    for newer in range(1, place + 1):
        order = order + [newer] if pattern[newer - 1] == ">" else [newer] + order
    return order


def ends(pattern, place):
    """The places at which bars that hold a place can end, from the bottom to the top."""
    _check_place(pattern, place)
    order = [len(pattern)]
    for newer in range(len(pattern) - 1, place - 1, -1):
        order = order + [newer] if pattern[newer] == "<" else [newer] + order
    return order


def stair(pattern, word):
    """For each birth at the place of a word: the number of ends with which its bar has the mark 1."""
    told = marks(pattern, word)
    order = ends(pattern, word.place)
    return tuple([sum([told[birth, end] for end in order]) for birth in births(pattern, word.place)])


def plain(pattern, word):
    """The word that stands for all words of a place with the same stair."""
    steps = stair(pattern, word)
    return _plain(word.place, steps, by_births(pattern, word.place), by_ends(pattern, word.place))


def plain_count(pattern, place):
    """The number of the plain words of a place."""
    _check_place(pattern, place)
    return comb(len(pattern) + 2, place + 1)


def plain_words(pattern, place):
    """All plain words of a place, in ascending order of their stairs."""
    stairs = _stairs(pattern, place)
    lower, inner = by_births(pattern, place), by_ends(pattern, place)
    for steps in stairs:
        yield _plain(place, steps, lower, inner)


def nth_plain(pattern, place, number):
    """The plain word with a number, counted from 0, in ascending order of the stairs."""
    if not is_integer(number, 0, plain_count(pattern, place) - 1):
        raise InvalidNumber(number)
    return _plain(place, _stairs(pattern, place)[number], by_births(pattern, place), by_ends(pattern, place))


def plain_number(pattern, word):
    """The number of the plain word of a word."""
    steps = stair(pattern, word)
    return _stairs(pattern, word.place).index(steps)


def _check_place(pattern, place):
    check_pattern(pattern)
    if not is_integer(place, 0, len(pattern)):
        raise InvalidPlace(place)


def marked(pattern, words):
    """For each of some words an integer, whose bit with the index of a bar is the mark on this bar."""
    check_pattern(pattern)
    for told in words:
        check_fitting(told, pattern)
    held = [_held(pattern, place) for place in range(len(pattern) + 1)]
    return [folded(word, lambda inner, parts: _marked_by_parts(inner, parts, pattern, held)) for word in words]


def _marked_alike(pattern, one, other):
    """The integers of two words of the same place."""
    bits = marked(pattern, [one, other])
    if one.place != other.place:
        raise UnlikePlaces()
    return bits


def _held(pattern, place):
    """The integer that has the bits of the bars that hold a place."""
    return sum([1 << index for index, (first, last) in enumerate(bars(pattern)) if first <= place <= last])


def _marked_by_parts(word, parts, pattern, held):
    """The integer of a word, where those of its parts are told, and those of the bars that hold each place."""
    here = held[word.place]
    if word.sign == "0":
        return 0
    if word.sign == "1":
        return here
    if word.sign == "+":
        return parts[0] | parts[1]
    if word.sign == "&":
        return parts[0] & parts[1]
    there = held[word.parts[0].place]
    if leads_along(word, pattern):
        return parts[0] & here
    # The arrow leads all vectors to zeros, which are in each space, in the rows of bars that do not hold both places.
    return here & (parts[0] | (here ^ there))


def _first_bar(pattern, bits):
    """The first bar whose bit is in an integer, or None."""
    for index, bar in enumerate(bars(pattern)):
        if bits >> index & 1 == 1:
            return bar
    return None


def _stairs(pattern, place):
    """All stairs of a place, ascending: tuples of numbers of ends, one for each birth, that never rise."""
    _check_place(pattern, place)
    many = len(pattern) - place + 1
    found = [()]
    for _ in range(place + 1):
        found = [steps + (step,) for steps in found for step in range(min(steps + (many,)) + 1)]
    return found


def _plain(place, steps, lower, inner):
    """The plain word of a place with a stair, made of the words for each number of births and of ends."""
    word = None
    # Where the stair goes down there is a corner: a number of births, each of them with the same number of ends.
    for many, (step, below) in enumerate(zip(steps, steps[1:] + (0,)), start=1):
        if step > below:
            corner = met(lower[many], inner[step])
            word = corner if word is None else word + corner
    return Word.none(place) if word is None else word


def met(one, other):
    """The meet of two words of a place, where one that means all vectors is left out."""
    if one.sign == "1":
        return other
    return one if other.sign == "1" else one & other


def by_births(pattern, place):
    """For each number the word that has the mark 1 on the bars whose births are so many from the bottom."""
    words = _ground(0)
    for newer in range(1, place + 1):
        words = _put_in(newer, [word.right() for word in _kept(words, pattern[newer - 1] == ">")])
    return words


def by_ends(pattern, place):
    """For each number the word that has the mark 1 on the bars whose ends are so many from the bottom."""
    words = _ground(len(pattern))
    for newer in range(len(pattern) - 1, place - 1, -1):
        words = _put_in(newer, [word.left() for word in _kept(words, pattern[newer] == "<")])
    return words


def _ground(place):
    return [Word.none(place), Word.whole(place)]


def _kept(words, on_top):
    """The words that mean something new at the next place: bars that begin or end there come on top or lowest."""
    return words[1:] if on_top else words[:-1]


def _put_in(place, words):
    return [Word.none(place), *words, Word.whole(place)]
