"""What counts as a number, a row, a square and a cube, and what these are modulo a prime."""

from splitbooks.errors import BadPrime

PRIMES = (2, 3, 5, 7, 11, 13, 17, 19, 23, 29, 31, 37, 41, 43, 47, 53, 59, 61, 67, 71, 73, 79, 83, 89, 97)


def is_number(value):
    """Whether value is an int that is not a bool."""
    return isinstance(value, int) and not isinstance(value, bool)


def is_number_within(value, least, most):
    """Whether value is a number from least to most."""
    return is_number(value) and least <= value <= most


def is_prime(value):
    """Whether value is a prime from 2 to 97."""
    return is_number(value) and value in PRIMES


def need_prime(prime):
    """BadPrime unless a prime from 2 to 97 is given."""
    if not is_prime(prime):
        raise BadPrime("a prime from 2 to 97 is wanted")


def is_listing(value):
    """Whether value is a list or a tuple."""
    return isinstance(value, (list, tuple))


def is_row(value, size):
    """Whether value is a row of this size."""
    if not is_listing(value) or len(value) != size:
        return False
    # Nearly always all are plain ints: this is asked first, as it is quicker.
    return all([type(item) is int for item in value]) or all([is_number(item) for item in value])


def is_row_list(value, size):
    """Whether value is a list of rows of this size, however many."""
    return is_listing(value) and all([is_row(item, size) for item in value])


def is_map(value, many, size):
    """Whether value is a list of many rows of this size."""
    return is_row_list(value, size) and len(value) == many


def is_square(value, size):
    """Whether value is a square of this size."""
    return is_map(value, size, size)


def is_cube(value, size):
    """Whether value is a cube of this size."""
    return is_listing(value) and len(value) == size and all([is_square(item, size) for item in value])


def row_of(value, prime):
    """The numbers of a row modulo the prime."""
    return tuple([number % prime for number in value])


def rows_of(value, prime):
    """The numbers of a list of rows, such as a square or a map, modulo the prime."""
    return tuple([row_of(row, prime) for row in value])


def cube_of(value, prime):
    """The numbers of a list of squares modulo the prime."""
    return tuple([rows_of(square, prime) for square in value])
