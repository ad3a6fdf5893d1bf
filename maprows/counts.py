"""Numbers of lists of vectors and of spaces modulo a prime."""


def power(base, times):
    """The product of an integer with itself, so many times."""
    total = 1
    for _ in range(times):
        total = total * base
    return total


def independent_lists(prime, many, length):
    """The number of lists of so many vectors of a length of which none is a sum of multiples of the others."""
    count = 1
    for ahead in range(many):
        # Each vector may be any one but for the sums of multiples of those ahead of it.
        count = count * (power(prime, length) - power(prime, ahead))
    return count


def spaces_within(prime, dimension, whole):
    """The number of the spaces of a dimension in a space of the dimension `whole`."""
    return independent_lists(prime, dimension, whole) // independent_lists(prime, dimension, dimension)
