"""Numbers modulo a prime taken often as factors, and undone."""


def power(number, exponent, prime):
    """The product of exponent factors number, modulo the prime."""
    result = 1
    square = number % prime
    while exponent > 0:
        if exponent & 1:
            result = result * square % prime
        square = square * square % prime
        exponent = exponent >> 1
    return result


def is_power_above(number, exponent, most):
    """Whether the product of exponent factors number, a number from 2 on, is above most."""
    result = 1
    for _ in range(exponent):
        result = result * number
        if result > most:
            return True
    return False


def number_undone(number, prime):
    """The number that, times number, is 1 modulo the prime; number is not 0 there."""
    return power(number, prime - 2, prime)
