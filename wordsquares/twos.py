"""Twos and odd numbers in whole numbers, and what is reckoned with them by a power of 2."""

# All odd numbers by 8.
ODDS = (1, 3, 5, 7)


def twos_of(number):
    """How often 2 divides a number that is not 0."""
    return (number & -number).bit_length() - 1


def odd_inverse(width, odd):
    """The word that times an odd number leaves 1 by 2 ** width."""
    # An odd number is its own inverse by 8, and each round doubles how many bits are right.
    inverse = odd
    right = 3
    while right < width:
        inverse = inverse * (2 - odd * inverse) % (1 << width)
        right = right * 2
    return inverse % (1 << width)


def odd_root(width, number):
    """An odd number whose square leaves, by 2 ** width, what a number that is 1 by 8 leaves."""
    root = 1
    for bit in range(3, width):
        # Only the bits from this one on of the square are changed by the bit below it in the root.
        if (root * root - number) >> bit & 1:
            root = root + (1 << (bit - 1))
    return root


def root_at(width, square, line, rest):
    """A word x for which square * x * x + line * x + rest is 0 by 2 ** width.

    There has to be one by 2, and `line` has to be odd: then each further bit is told by the ones below it.
    """
    root = 0
    for bit in range(width):
        if (square * root * root + line * root + rest) >> bit & 1:
            root = root + (1 << bit)
    return root
