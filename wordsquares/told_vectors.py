"""How the block of a step becomes, at a width, the very form of its piece.

Each unknown of the piece is told by a row: how often each unknown of the block stands in it. So the
value of the block at a row is the piece's item of this unknown on the diagonal.
"""

from wordsquares.rows import product_of
from wordsquares.told_way import piece_at, steps_at
from wordsquares.twos import odd_inverse, odd_root, root_at


def square_rows(width, k, block, kind):
    """The row that makes the square of a kind of a block of one unknown."""
    # By 8, or by less where the width leaves less, this number is 1: so it has a root there.
    square = kind * odd_inverse(width, block[0][0] >> k)
    return [[odd_root(width - k, square)]]


def nought_pair_rows(width, low, between, high):
    """The rows that make low * x * x + between * x * y + high * y * y just x * y, by 2 ** width.

    `between` is odd, and at least one of the two others is even.
    """
    # At (root, 1) the value is 0. It is multiplied so that it makes 1 with (1, 0), and from
    # (1, 0) it is taken so often that the value there becomes 0, too.
    root = root_at(width, low, between, high)
    inverse = odd_inverse(width, 2 * low * root + between)
    return [[root * inverse, inverse], [1 - low * root * inverse, -low * inverse]]


def two_pair_rows(width, low, between, high):
    """The rows that make low * x * x + between * x * y + high * y * y just x * x + x * y + y * y.

    All three are odd, and both are alike by 2 ** width.
    """
    # At (1, root) the value is 1. (0, inverse) makes 1 with it, and so does each sum of it `part`
    # times and of (0, inverse) 1 - 2 * part times; at one of these the value is 1, too.
    root = root_at(width, high, between, low - 1)
    inverse = odd_inverse(width, between + 2 * high * root)
    rest = high * inverse * inverse
    part = root_at(width, 4 * rest - 1, 1 - 4 * rest, rest - 1)
    return [[1, root], [part, part * root + (1 - 2 * part) * inverse]]


def rows_of_piece(width, k, block, kind):
    """The rows that make the piece of a kind of a block of the scale k."""
    if len(block) == 1:
        return square_rows(width, k, block, kind)
    low, between, high = block[0][0] >> (k + 1), block[0][1] >> k, block[1][1] >> (k + 1)
    if kind == 0:
        return nought_pair_rows(width, low, between, high)
    return two_pair_rows(width, low, between, high)


def combined(width, rows, vectors):
    """The vectors that have each of some vectors in them as often as each of the rows tells."""
    return [[item % (1 << width) for item in row] for row in product_of(rows, vectors)]


def told_part(width, k, block, vectors):
    """The tuple (piece, vectors) of what a step takes and of its unknowns, with the very form of the piece."""
    piece = piece_at(width, k, block)
    return piece, combined(width, rows_of_piece(width, k, block, piece[1]), vectors)


def told_parts(width, form):
    """The tuple (parts, left) of the told way at a width.

    The parts are, in order, the tuples of each piece and of the vectors of its unknowns, with the very form
    of the piece; `left` has the vectors of the unknowns that stand nowhere.
    """
    taken, left = steps_at(width, form)
    return sorted([told_part(width, k, block, vectors) for k, block, vectors in taken]), left
