"""Words: expressions that mean a space in each row of linear maps."""

from maprows.errors import InvalidPlace, InvalidText, NotFitting, UnlikePlaces
from maprows.rests import is_integer
from maprows.rows import MOST, check_pattern
from maprows.spaces import Space

# What each sign becomes as seen from the other end of a pattern, and in the dual word.
TURNED = {"0": "0", "1": "1", "+": "+", "&": "&", "right": "left", "left": "right"}
DUAL = {"0": "1", "1": "0", "+": "&", "&": "+", "right": "right", "left": "left"}

# The strings that may be handed in are no longer, unless this package returned them.
LONGEST = 1000

# The most brackets that may be open in a text that is no longer than that.
MOST_OPEN = 60

OPENINGS = ("(", "right(", "left(")
PLACES = "0123456"


class Word:
    """A word: all vectors of a place or none, a sum or a meet, or a word led to the place on the right or left."""

    def __init__(self, sign, place, parts):
        places = [place] + [end for part in parts for end in part.reach]
        self._sign = sign
        self._place = place
        self._parts = parts
        self._reach = (min(places), max(places))
        # One character for each sign 0 and 1 in the word, so that they can be counted.
        self._ground = "".join([part._ground for part in parts]) if len(parts) > 0 else sign
        self._text = _text(sign, place, parts)

    @classmethod
    def none(cls, place):
        """The word for the vector of zeros alone at a place."""
        _check_place(place)
        return cls("0", place, ())

    @classmethod
    def whole(cls, place):
        """The word for all vectors of a place."""
        _check_place(place)
        return cls("1", place, ())

    @classmethod
    def read(cls, text):
        """The word with a text."""
        return _read(text)

    @property
    def sign(self):
        """The sign that stands outermost in the word."""
        return self._sign

    @property
    def place(self):
        """The place whose vectors the word tells of."""
        return self._place

    @property
    def parts(self):
        """The words of which the word is made, as a tuple: none, one or two."""
        return self._parts

    @property
    def reach(self):
        """The least and the greatest place of the word and of all words within it."""
        return self._reach

    def __len__(self):
        return len(self._ground)

    def __eq__(self, other):
        return isinstance(other, Word) and self._text == other._text

    def __add__(self, other):
        _check_alike(self, other)
        return Word("+", self._place, (self, other))

    def __and__(self, other):
        _check_alike(self, other)
        return Word("&", self._place, (self, other))

    def right(self):
        """The word led to the next place on the right."""
        _check_place(self._place + 1)
        return Word("right", self._place + 1, (self,))

    def left(self):
        """The word led to the next place on the left."""
        _check_place(self._place - 1)
        return Word("left", self._place - 1, (self,))

    def text(self):
        """The word as a text, from which Word.read makes it again."""
        return self._text

    def fits(self, pattern):
        """Whether all places in the word are places of a pattern."""
        check_pattern(pattern)
        return self._reach[1] <= len(pattern)

    def turned(self, k):
        """The word as seen from the other end of a pattern with k arrows."""
        if not is_integer(k, self._reach[1], MOST):
            raise InvalidPlace(k)
        return folded(self, lambda word, parts: Word(TURNED[word.sign], k - word.place, tuple(parts)))

    def dual(self):
        """The word in which sums and meets are exchanged, and 0 and 1."""
        return folded(self, lambda word, parts: Word(DUAL[word.sign], word.place, tuple(parts)))


def carried(word, place):
    """The word of a place that is made of a word by right or left alone."""
    _check_place(place)
    while word.place < place:
        word = word.right()
    while word.place > place:
        word = word.left()
    return word


def check_fitting(word, pattern):
    """Raise NotFitting unless a word fits a pattern."""
    if not (isinstance(word, Word) and word.fits(pattern)):
        raise NotFitting(word)


def folded(word, made):
    """What a function makes of a word and of the list of what it made of its parts, from the inmost words on."""
    results = []
    for inner in _inmost_first(word):
        ahead = len(results) - len(inner.parts)
        results = results[:ahead] + [made(inner, results[ahead:])]
    return results[0]


def value(word, row):
    """The value of a word in a row: a space of vectors of its place."""
    check_fitting(word, row.pattern)
    return folded(word, lambda inner, spaces: _value(inner, spaces, row))


def _value(word, spaces, row):
    """The value of a word in a row, where the values of its parts are told."""
    size = row.sizes[word.place]
    if word.sign == "0":
        return Space.nothing(row.prime, size)
    if word.sign == "1":
        return Space.whole(row.prime, size)
    if word.sign == "+":
        return spaces[0] + spaces[1]
    if word.sign == "&":
        return spaces[0] & spaces[1]
    index = step(word)
    if leads_along(word, row.pattern):
        return spaces[0].image(row.matrix(index), size)
    return spaces[0].back(row.matrix(index))


def step(word):
    """The number of the arrow between the place of a word right(..) or left(..) and the place of its part."""
    return min(word.place, word.parts[0].place)


def leads_along(word, pattern):
    """Whether that arrow leads to the place of the word."""
    return pattern[step(word)] == (">" if word.sign == "right" else "<")


def _inmost_first(word):
    """All words within a word and itself, each of them behind its parts."""
    # A list instead of a function that calls itself: words may be deeper than calls.
    found, waiting = [], [word]
    while len(waiting) > 0:
        inner = waiting.pop()
        found.append(inner)
        waiting.extend(inner.parts)
    return found[::-1]


def _check_place(place):
    if not is_integer(place, 0, MOST):
        raise InvalidPlace(place)


def _check_alike(one, other):
    if not (isinstance(one, Word) and isinstance(other, Word)):
        raise UnlikePlaces()
    if one.place != other.place:
        raise UnlikePlaces()


def _text(sign, place, parts):
    if len(parts) == 0:
        return f"{sign}@{place}"
    if len(parts) == 1:
        return f"{sign}({parts[0].text()})"
    first, second = parts
    # The first part of a sum or a meet with the same sign needs no brackets, since both are connected from the left.
    one = _in_brackets(first.text(), sign == "&" and first.sign == "+")
    other = _in_brackets(second.text(), second.sign == sign or (sign == "&" and second.sign == "+"))
    return f"{one} {sign} {other}"


def _in_brackets(text, asked):
    return f"({text})" if asked else text


def _read(text):
    if not isinstance(text, str):
        raise InvalidText(text)
    try:
        word = _word_told(text)
    except (InvalidPlace, UnlikePlaces):
        raise InvalidText(text) from None
    # Spaces and brackets may stand otherwise than in the text of the word.
    if word is None or word.text() != text:
        raise InvalidText(text)
    return word


def _word_told(text):
    """The word that a text tells, if perhaps with more brackets than needed; or None."""
    # For the whole text and each open bracket: how it opens, and the terms of a sum, each with the words of a meet.
    frames = [("", [[]])]
    # Whether a word has just ended, so that a sign or a closing bracket is due.
    ended = False
    for token in text.replace("(", "( ").replace(")", " )").split(" "):
        if not ended and token in OPENINGS:
            frames.append((token, [[]]))
            if _is_too_deep(text, frames):
                return None
        elif not ended and _is_ground(token):
            frames[-1][1][-1].append(Word(token[0], int(token[2]), ()))
            ended = True
        elif ended and token == ")" and len(frames) > 1:
            opening, terms = frames.pop()
            frames[-1][1][-1].append(_closed(opening, terms))
        elif ended and token in ("+", "&"):
            if token == "+":
                frames[-1][1].append([])
            ended = False
        else:
            return None
    return _closed("", frames[0][1]) if ended and len(frames) == 1 else None


def _is_ground(token):
    """Whether a token is a word `0@p` or `1@p`."""
    return len(token) == 3 and token[0] in "01" and token[1] == "@" and token[2] in PLACES


def _is_too_deep(text, frames):
    """Whether a text with these open brackets is refused, whatever stands in them."""
    # What this package returned is read however many brackets are open, but a text does not show where it is from. One
    # that is longer than what may be handed in must have been returned. What is made of words within the limits of
    # calls has at times more than sixty brackets open, but not more than sixty of right and left, or of the others.
    if len(text) > LONGEST:
        return False
    grouping = len([opening for opening, _ in frames if opening == "("])
    return max(grouping, len(frames) - 1 - grouping) > MOST_OPEN


def _closed(opening, terms):
    """The word for what stands in a bracket: a sum of meets of words."""
    word = None
    for term in terms:
        met = term[0]
        for other in term[1:]:
            met = met & other
        word = met if word is None else word + met
    if opening == "right(":
        return word.right()
    return word.left() if opening == "left(" else word
