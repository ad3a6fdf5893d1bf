"""Threads: vectors that take a row of linear maps apart into bars."""

from maprows.rests import is_list, is_vector, joined, led, mixed
from maprows.rows import bars, is_bar, way
from maprows.spaces import Space, extension, factors_for, inverse_of


def threads(row):
    """Threads that take a row apart, with their bars, in ascending order of the bars."""
    # Those that reach the present place, each a place of birth and its vectors. Each of them may take up any multiple
    # of those behind it: it is still a thread of its bar then.
    alive = [(0, [vector]) for vector in Space.whole(row.prime, row.sizes[0]).basis()]
    ended = []
    for index, arrow in enumerate(row.pattern):
        if arrow == ">":
            gone, alive = _led_on(row, index, alive)
        else:
            gone, alive = _led_back(row, index, alive)
        ended = ended + [((birth, index), vectors) for birth, vectors in gone]
    ended = ended + [((birth, len(row.pattern)), vectors) for birth, vectors in alive]
    return sorted(ended, key=lambda told: told[0])


def numbers(row):
    """The numbers of a row: how many threads of each bar take it apart."""
    counts = {bar: 0 for bar in bars(row.pattern)}
    for bar, _ in threads(row):
        counts[bar] += 1
    return counts


def is_threads(row, told):
    """Whether a value is a list of threads, with their bars, that take a row apart."""
    if not (is_list(told) and all([_is_thread(row, item) for item in told])):
        return False
    return all([_is_apart(row, place, told) for place in range(len(row))])


def vectors_at(told, place):
    """The vectors that threads, told with their bars, have at a place."""
    return [thread[place - first] for (first, last), thread in told if first <= place <= last]


def _led_on(row, index, alive):
    """The threads that end at an arrow `>`, and those that are alive behind it."""
    width = row.sizes[index + 1]
    matrix = row.matrix(index)
    images = [led(row.prime, vectors[-1], matrix, width) for _, vectors in alive]
    # The sums of threads that the arrow leads to zeros. Their basis has the foremost thread of each sum just once.
    lost = Space.nothing(row.prime, width).back(images).basis()
    gone = {_foremost(factors): _sum_of(row, alive, factors) for factors in lost}
    kept = [at for at in range(len(alive)) if at not in gone]
    reached = Space(row.prime, width, [images[at] for at in kept])
    born = [(index + 1, [vector]) for vector in extension(reached, Space.whole(row.prime, width))]
    stay = [(alive[at][0], alive[at][1] + [images[at]]) for at in kept]
    return [gone[at] for at in sorted(gone)], born + stay


def _led_back(row, index, alive):
    """The threads that end at an arrow `<`, and those that are alive behind it."""
    size = row.sizes[index + 1]
    apart = inverse_of(row.prime, [vectors[-1] for _, vectors in alive])
    # Leads vectors of the new place to the factors with which the last vectors of the threads add up to their images.
    back = joined(row.prime, row.matrix(index), apart, len(alive))
    reached = Space.whole(row.prime, size).image(back, len(alive)).basis()
    kept = {_foremost(factors): _sum_of(row, alive, factors) for factors in reached}
    ahead = {_foremost(factors): tuple(factors_for(row.prime, back, factors)) for factors in reached}
    stay = [(kept[at][0], kept[at][1] + [ahead[at]]) for at in sorted(kept)]
    born = [(index + 1, [vector]) for vector in Space.nothing(row.prime, len(alive)).back(back).basis()]
    return [alive[at] for at in range(len(alive)) if at not in kept], stay + born


def _foremost(factors):
    """The index of the first factor other than 0."""
    return min([at for at, factor in enumerate(factors) if factor != 0])


def _sum_of(row, alive, factors):
    """The foremost thread of a sum, when it has taken up its multiples of the threads behind it."""
    birth, vectors = alive[_foremost(factors)]
    places = range(birth, birth + len(vectors))
    return birth, [_sum_at(row, place, alive, factors) for place in places]


def _sum_at(row, place, alive, factors):
    """The vector of a sum of threads at a place, to which those add nothing that are born behind it."""
    there = [(factor, vectors[place - birth]) for factor, (birth, vectors) in zip(factors, alive) if birth <= place]
    return mixed(row.prime, [factor for factor, _ in there], [vector for _, vector in there], row.sizes[place])


def _is_thread(row, item):
    """Whether a value is a bar and a thread of this bar."""
    if not (isinstance(item, tuple) and len(item) == 2 and is_bar(row.pattern, item[0]) and is_list(item[1])):
        return False
    (first, last), thread = item
    if len(thread) != last - first + 1:
        return False
    if not all([is_vector(vector, row.sizes[place]) for place, vector in enumerate(thread, start=first)]):
        return False
    return all([_agrees(row, index, first, thread) for index in range(len(row.pattern))])


def _agrees(row, index, first, thread):
    """Whether an arrow leads the vectors of a thread, which begins at a place, as the thread asks for."""
    start, goal = [place - first for place in way(row.pattern, index)]
    if not 0 <= start < len(thread):
        return True
    size = row.sizes[goal + first]
    asked = thread[goal] if 0 <= goal < len(thread) else (0,) * size
    return led(row.prime, thread[start], row.matrix(index), size) == tuple([item % row.prime for item in asked])


def _is_apart(row, place, told):
    """Whether the vectors of threads at a place are a basis of the space of all vectors of the place."""
    there = vectors_at(told, place)
    return len(there) == row.sizes[place] and inverse_of(row.prime, there) is not None
