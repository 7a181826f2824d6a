"""Shares of whole numbers in pieces: what each scale, and the numbers beside it, adds to how many changes keep a form.

Fractions are told as tuples (above, below). Nothing is checked.
"""

from math import gcd

from wordsquares.pieces import is_square_kind, size_of_pieces
from wordsquares.scales import has_square, pieces_at_scale

# The rank of an odd scale that is not bound, less the number of its unknowns, and its sign, by the octane.
RANKS_BY_OCTANE = ((-2, 1), (-1, 1), (-1, 1), (-1, -1), (-2, -1), (-1, -1), (-1, 1), (-1, 1))


def is_odd_scale(pieces, k):
    """Whether a square stands at a scale."""
    return has_square(pieces_at_scale(pieces, k))


def is_bound(pieces, k):
    """Whether a number has an odd scale beside it."""
    return is_odd_scale(pieces, k - 1) or is_odd_scale(pieces, k + 1)


def pairs_of_kind_2(there):
    """How many pairs of the kind 2 are among pieces of one scale."""
    return len([kind for _, kind in there if kind == 2])


def octane_of(there):
    """What the pieces of an odd scale add up to, by 8: 1 or -1 for each square, 4 for each pair of the kind 2."""
    squares = [1 if kind % 4 == 1 else -1 for _, kind in there if is_square_kind(kind)]
    return (sum(squares) + 4 * pairs_of_kind_2(there)) % 8


def rank_of_scale(there, bound):
    """The tuple (rank, sign) of the pieces of a scale; the sign of an odd rank tells nothing."""
    many = size_of_pieces(there)
    if not has_square(there):
        sign = 1 if pairs_of_kind_2(there) % 2 == 0 else -1
        return (many + 1, 1) if bound else (many, sign)
    if bound:
        return many - 1 + many % 2, 1
    less, sign = RANKS_BY_OCTANE[octane_of(there)]
    return many + less, sign


def share_of_rank(rank, sign):
    """The share of a scale with a rank and a sign, in lowest terms."""
    if rank == 0:
        return 1, 1
    half = (rank + 1) // 2
    above, below = 1, 2
    for i in range(1, half):
        above, below = above << (2 * i), below * ((1 << (2 * i)) - 1)
    if rank % 2 == 0:
        above, below = above << half, below * ((1 << half) - sign)
    common = gcd(above, below)
    return above // common, below // common


def share_of(pieces, k):
    """The share of a whole number in pieces, in lowest terms."""
    there, bound = pieces_at_scale(pieces, k), is_bound(pieces, k)
    if not there:
        return (1, 2) if bound else (1, 1)
    rank, sign = rank_of_scale(there, bound)
    return share_of_rank(rank, sign)


def shares_in(pieces):
    """The list of the tuples (k, above, below) from below the least scale of pieces to above the greatest one."""
    scales = [k for k, _ in pieces]
    if not scales:
        return []
    found = []
    for k in range(min(scales) - 1, max(scales) + 2):
        above, below = share_of(pieces, k)
        found.append((k, above, below))
    return found
