"""What several files of tests use."""

import itertools
import unittest

from maprows.claims import Claim
from maprows.consoles import Console
from maprows.errors import RowError
from maprows.rows import Row
from maprows.spaces import Space, inverse_of
from maprows.streams import Stream
from maprows.words import Word

PRIMES = (2, 3, 5, 7, 11, 13)
GREAT = 10 ** 30 - 1


class RowTest(unittest.TestCase):
    """Tests with the questions that are asked again and again."""

    def same(self, found, expected):
        """Equal, and of the same kinds throughout: (1,) is not [1], and True is not 1."""
        self.assertEqual(repr(found), repr(expected))

    def raised(self, call, *args, **named):
        """The exception of the package that a call raises."""
        with self.assertRaises(RowError) as caught:
            call(*args, **named)
        return caught.exception

    def refuses(self, error, kept, call, *args, **named):
        """A call raises just this exception, which keeps the very value."""
        found = self.raised(call, *args, **named)
        self.assertIs(type(found), error, (args, named))
        self.assertIs(found.value, kept)

    def refuses_plainly(self, error, call, *args, **named):
        """A call raises just this exception, which has no value to keep."""
        self.assertIs(type(self.raised(call, *args, **named)), error, (args, named))

    def refuses_in_order(self, call, good, order):
        """Each wrong argument is refused, alone and together with all that are checked later.

        `good` has right arguments by their names; `order` has, in the order in which they are
        checked, the name of an argument, its exception and wrong values for it.
        """
        call(**good)
        for at, (name, error, bads) in enumerate(order):
            for bad in bads:
                with self.subTest(name=name, bad=bad):
                    self.refuses(error, bad, call, **{**good, name: bad})
                    for worse in later_wrongs(order[at + 1:]):
                        self.refuses(error, bad, call, **{**good, name: bad, **worse})

    def keeps_arguments(self, call, *args):
        """A call leaves lists and what is in them as they were, and gives equal results again."""
        before = repr(args)
        first = call(*args)
        self.assertEqual(repr(args), before)
        self.assertEqual(call(*args), first)
        return first


def later_wrongs(order):
    """Dicts of wrong arguments: each one alone, and all together."""
    wrongs = [{name: bad} for name, _, bads in order for bad in bads]
    if len(order) > 1:
        most = max(len(bads) for _, _, bads in order)
        wrongs += [{name: bads[at % len(bads)] for name, _, bads in order} for at in range(most)]
    return wrongs


def things():
    """Values of the kinds that are neither integers nor lists."""
    word = Word.none(1) + Word.whole(0).right()
    objects = [Space(5, 2, [(1, 2)]), Row(">", 5, [1, 2], [[(1, 2)]]), Word.whole(0), word]
    objects += [Claim([(1, word)]), Stream(2, 1), Console()]
    return [None, True, False, "", "2", "123", {}, {0: 1}, {"a": [1]}, {(0, 1): 2}] + objects


def wrong_primes():
    return things() + [0, 1, -1, -2, -5, 4, 6, 8, 9, 10, 12, 14, 15, 17, 19, GREAT, -GREAT, [], [5], (5,), (2, 3)]


def wrong_sizes():
    return things() + [-1, -12, 13, 14, 100, GREAT, -GREAT, [], [3], (), (3,)]


def wrong_items():
    """What may stand in a list of vectors, or in a vector, where no vector and no integer may stand."""
    return things() + [[None], (True,), ["1"], [[1]], ((1,),), [{}]]


def wrong_vectors(length):
    """What is no vector of a length, though some are vectors of other lengths."""
    wrong = things() + [0, 3, GREAT, {at: at for at in range(length)}, "1" * length]
    wrong += [[1] * other for other in (0, 1, 2, 3, 4, 11, 12, 13) if other != length]
    wrong += [(1,) * (length + 1), [(1,) * length] * (1 if length != 1 else 2)]
    for item in wrong_items():
        if length > 0:
            wrong += [[1] * (length - 1) + [item], (item,) + (1,) * (length - 1)]
    return wrong


def no_vectors(most=None):
    """What is no list of integers, or, with a number told, a longer one."""
    wrong = things() + [0, 3, GREAT, [[1]], [(1, 2)], ((),)]
    for item in things():
        wrong += [[1, item], (item, 1)]
    return wrong if most is None else wrong + [[1] * (most + 1), (0,) * 20]


def wrong_matrices(height, width):
    """What is no matrix of a height and a width; of a height None only what is none of any height."""
    wrong = things() + [0, 3, GREAT, [width], "1" * width, [[1] * (width + 1)], [(1,) * width, (1,) * (width + 2)]]
    rows = 2 if height is None else height
    for item in things() + [3, [[1] * width], "1" * width]:
        if rows > 0:
            wrong += [[(1,) * width] * (rows - 1) + [item], (item,) + ([1] * width,) * (rows - 1)]
    for item in wrong_items():
        if rows > 0 and width > 0:
            wrong += [[(1,) * width] * (rows - 1) + [[1] * (width - 1) + [item]]]
            wrong += [[[item] + [1] * (width - 1)] + [(1,) * width] * (rows - 1)]
    if rows > 0 and width > 0:
        wrong += [[(1,) * (width - 1)] * rows, [[]] + [(1,) * width] * (rows - 1)]
        wrong += [{at: (1,) * width for at in range(rows)}]
    if height is not None:
        wrong += [[(1,) * width] * other for other in range(14) if other != height]
    return wrong


def wrong_patterns():
    wrong = [thing for thing in things() if thing != ""]
    wrong += [0, 1, 6, GREAT, [], [">"], (">",), ([">"], "<"), ">>>>>>>", "<" * 7, "<>" * 50, "-", "=", "a", " ", "\n"]
    return wrong + [" >", "> ", "> <", ">\n", "\n<", ">-<", ">=", "><a", ">>>>>>a", "right", ">,<"]


def wrong_places(low, high):
    """What is no integer from one to another."""
    return things() + [low - 1, high + 1, low - 2, high + 100, GREAT, -GREAT, [], [low], (low,), str(low), [low, high]]


def wrong_bars(k):
    """What is no bar of a pattern with k arrows."""
    wrong = things() + [0, 1, GREAT, [], (), [0, 0], [0, k], (0,), (k,), (0, 0, 0), (0, k, 0), ((0, 0),), [(0, 0)]]
    wrong += [(1, 0), (k, k - 1), (-1, 0), (-1, k), (0, -1), (-1, -1), (0, k + 1), (k + 1, k + 1), (k + 1, k)]
    wrong += [(0, GREAT), (-GREAT, 0), (False, 0), (0, False), (True, 1), (0, True), (None, 0), (0, None), ("0", "0")]
    return wrong + [("0", 0), "00", ([0], 0), (0, [0]), ((0,), 0), ({}, 0), (0, Space(2, 1)), ((0, 0), (0, 0))]


def wrong_numbers(k):
    """What is no dict of numbers for a pattern with k arrows."""
    wrong = [thing for thing in things() if thing != {} and (k == 0 or thing != {(0, 1): 2})]
    wrong += [0, 1, GREAT, [], (), [((0, 0), 1)], (((0, 0), 1),), [(0, 0)]]
    wrong += [{bar: 1} for bar in wrong_bars(k) if is_key(bar)]
    wrong += [{bar: 0} for bar in ((0, k + 1), (-1, 0), (True, 1), (1, 0), "00", 0, (0,), (0, 0, 0))]
    wrong += [{(0, 0): number} for number in things() + [-1, 7, GREAT, -GREAT, [], [1], (1,), "1"]]
    wrong += [{(0, 0): 1, (0, k): True}, {(0, k): 1, (k + 1, k + 1): 1}, {(0, 0): 1, "a": 1}, {(0, 0): 0, (k, k): -1}]
    return wrong


def is_key(value):
    """Whether a value may be a key of the dicts that are handed in."""
    if isinstance(value, tuple):
        return all(isinstance(item, int) for item in value)
    return isinstance(value, (int, str)) and not isinstance(value, bool)


def wrong_size_lists(k):
    """What is no list of a size for each place of a pattern with k arrows."""
    wrong = things() + [0, 1, 6, GREAT, "1" * (k + 1), {at: 1 for at in range(k + 1)}, [[1] * (k + 1)]]
    wrong += [[1] * k, (1,) * k, [1] * (k + 2), (1,) * (k + 2), [1] * 100]
    for item in things() + [-1, 7, GREAT, -GREAT, [1], (1,), "1"]:
        wrong += [[1] * k + [item], (item,) + (1,) * k]
    return wrong


def wrong_arrows():
    return things() + [0, 1, GREAT, "", ">>", "<>", "<<", " >", "> ", "-", "=", ">=", "right", [">"], (">",), ["<"], []]


def wrong_place_sizes():
    """What is no size of a place."""
    return things() + [-1, 7, 12, GREAT, -GREAT, [], [3], (3,), "1"]


def all_patterns(most, least=0):
    return ["".join(arrows) for k in range(least, most + 1) for arrows in itertools.product("<>", repeat=k)]


def all_bars(k):
    return [(first, last) for first in range(k + 1) for last in range(first, k + 1)]


def ends_of(pattern, index):
    """The place from which an arrow leads, and the place to which it leads."""
    return (index, index + 1) if pattern[index] == ">" else (index + 1, index)


def some_row(numbers, pattern, prime, sizes, ranks=None):
    """A row with items without much of a pattern, and with maps of low ranks where a rank is told."""
    maps = []
    for index in range(len(pattern)):
        start, goal = ends_of(pattern, index)
        if ranks is None:
            maps.append(some_matrix(numbers, sizes[start], sizes[goal], -20, 20))
        else:
            maps.append(low_rank(numbers, sizes[start], sizes[goal], ranks))
    return Row(pattern, prime, sizes, maps)


def some_rows(seed, many, arrows, most, primes=PRIMES):
    """Rows of many patterns, primes and sizes, of full and of low ranks."""
    numbers = sequence(seed)
    for at in range(many):
        k = next(numbers) % (arrows + 1)
        pattern = "".join("<>"[next(numbers) % 2] for _ in range(k))
        sizes = [next(numbers) % (most + 1) for _ in range(k + 1)]
        ranks = None if at % 3 == 0 else next(numbers) % (most + 1)
        yield some_row(numbers, pattern, primes[next(numbers) % len(primes)], sizes, ranks)


def some_numbers(values, k, most=6):
    """Numbers for a pattern with k arrows with which no place is too large."""
    told, sizes = {}, [0] * (k + 1)
    bars = all_bars(k)
    for _ in range(next(values) % (3 * k + 4)):
        first, last = bars[next(values) % len(bars)]
        if max(sizes[first:last + 1]) < most:
            told[first, last] = told.get((first, last), 0) + 1
            sizes = [size + (first <= place <= last) for place, size in enumerate(sizes)]
    return told


def in_other_coordinates(values, row):
    """The row with other vectors at each place: all that is led is led likewise."""
    bases = []
    for size in row.sizes:
        basis = some_matrix(values, size, size)
        while inverse_of(row.prime, basis) is None:
            basis = some_matrix(values, size, size)
        bases.append(basis)
    maps = []
    for index in range(len(row.pattern)):
        start, goal = ends_of(row.pattern, index)
        back, size = inverse_of(row.prime, bases[start]), row.sizes[goal]
        led = [lead(row.prime, vector, row.matrix(index), size) for vector in back]
        maps.append([lead(row.prime, vector, bases[goal], size) for vector in led])
    return Row(row.pattern, row.prime, row.sizes, maps)


def some_word(numbers, place, leaves, steps, most=6):
    """A word of a place with a number of signs 0 and 1, and of right and left, that reaches no place above `most`."""
    if leaves == 1 and (steps == 0 or most == 0):
        return (Word.none if next(numbers) % 4 == 0 else Word.whole)(place)
    if most > 0 and steps > 0 and (leaves == 1 or next(numbers) % 2 == 0):
        near = [other for other in (place - 1, place + 1) if 0 <= other <= most]
        other = near[next(numbers) % len(near)]
        part = some_word(numbers, other, leaves, steps - 1, most)
        return part.right() if other < place else part.left()
    first, taken = 1 + next(numbers) % (leaves - 1), next(numbers) % (steps + 1)
    one = some_word(numbers, place, first, taken, most)
    other = some_word(numbers, place, leaves - first, steps - taken, most)
    return one + other if next(numbers) % 2 == 0 else one & other


def shape(word):
    """What a word is made of, as tuples of its sign, its place and the shapes of its parts."""
    return (word.sign, word.place, tuple(shape(part) for part in word.parts))


def small_words(place, leaves, steps, most=6):
    """All words of a place with at most so many signs 0 and 1, and with at most so many of right and left."""
    return [word for many in range(1, leaves + 1) for taken in range(steps + 1)
            for word in words_of(place, many, taken, most)]


def words_of(place, leaves, steps, most):
    found = [Word.none(place), Word.whole(place)] if (leaves, steps) == (1, 0) else []
    if steps > 0 and place > 0:
        found += [word.right() for word in words_of(place - 1, leaves, steps - 1, most)]
    if steps > 0 and place < most:
        found += [word.left() for word in words_of(place + 1, leaves, steps - 1, most)]
    for first in range(1, leaves):
        for taken in range(steps + 1):
            for one in words_of(place, first, taken, most):
                for other in words_of(place, leaves - first, steps - taken, most):
                    found += [one + other, one & other]
    return found


def most_open(text):
    """The greatest number of brackets that are open at one place of a text."""
    opened = most = 0
    for sign in text:
        opened += (sign == "(") - (sign == ")")
        most = max(most, opened)
    return most


def all_vectors(prime, length):
    return list(itertools.product(range(prime), repeat=length))


def all_matrices(prime, height, width):
    return [list(rows) for rows in itertools.product(all_vectors(prime, width), repeat=height)]


def lead(prime, vector, matrix, width):
    """Where a matrix leads a vector, straight from the definition."""
    total = [0] * width
    for at, row in enumerate(matrix):
        for column in range(width):
            total[column] += vector[at] * row[column]
    return tuple(item % prime for item in total)


def span(prime, length, vectors):
    """The set of all sums of multiples of vectors, gone through one by one."""
    return {
        lead(prime, factors, vectors, length)
        for factors in itertools.product(range(prime), repeat=len(vectors))
    }


def all_spaces(prime, length):
    """All spaces of a length, each with the set of its vectors."""
    found = {}
    for many in range(length + 1):
        for vectors in itertools.combinations(all_vectors(prime, length), many):
            found.setdefault(frozenset(span(prime, length, vectors)), Space(prime, length, vectors))
    return [(space, vectors) for vectors, space in found.items()]


def all_within(prime, space):
    """The set of those vectors that a space tells to be in it."""
    return {vector for vector in all_vectors(prime, space.length) if vector in space}


def sequence(seed):
    """An endless row of numbers without much of a pattern, the same for each seed."""
    state = seed
    while True:
        state = (state * 6364136223846793005 + 1442695040888963407) % 2 ** 64
        yield state // 2 ** 33


def some_matrix(numbers, height, width, low=0, high=12):
    return [tuple(low + next(numbers) % (high - low + 1) for _ in range(width)) for _ in range(height)]


def low_rank(numbers, height, width, rank):
    """A matrix of a rank of at most `rank`."""
    tall, wide = some_matrix(numbers, height, rank), some_matrix(numbers, rank, width)
    return [tuple(sum(a * b for a, b in zip(row, column)) for column in zip(*wide)) or (0,) * width for row in tall]


def units(size):
    return [tuple(int(row == column) for column in range(size)) for row in range(size)]


def check_examples(test, text):
    """Each line behind >>> gives what stands below it: nothing, a value, or an exception with its values."""
    names = {}
    lines = [line.strip() for line in text.strip().splitlines()]
    tried = 0
    for at, line in enumerate(lines):
        if line.startswith(">>> "):
            below = lines[at + 1] if at + 1 < len(lines) else ">>> "
            check_example(test, names, line[4:], None if below.startswith(">>> ") else below)
            tried += 1
    return tried


def check_example(test, names, code, expected):
    with test.subTest(code=code):
        if expected is None:
            exec(code, names)
        elif expected.startswith("raises "):
            name, _, values = expected[len("raises "):].partition("(")
            found = test.raised(eval, code, names)
            test.assertEqual(type(found).__name__, name)
            kept = [getattr(found, attribute) for attribute in ("value", "bar", "name") if hasattr(found, attribute)]
            test.same(kept, eval("[" + values[:-1] + "]"))
        else:
            test.assertEqual(repr(eval(code, names)), expected)
