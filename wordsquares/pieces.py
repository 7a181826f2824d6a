"""Pieces, the squares and pairs that forms fall into, and their sums."""

from wordsquares.checks import MOST_UNKNOWNS, check_width, is_count, is_size, is_whole
from wordsquares.errors import InvalidNumber, InvalidPieces
from wordsquares.twos import twos_of

KINDS = (0, 1, 2, 3, 5, 7)


def is_square_kind(kind):
    """Whether a kind is that of a square, not of a pair."""
    return kind % 2 == 1


def size_of_piece(piece):
    """How many unknowns a piece has."""
    return 1 if is_square_kind(piece[1]) else 2


def size_of_pieces(pieces):
    """How many unknowns pieces have together."""
    return sum([size_of_piece(piece) for piece in pieces])


def is_piece(value):
    """Whether a value is a piece."""
    if not isinstance(value, tuple) or len(value) != 2:
        return False
    k, kind = value
    return is_count(k) and is_whole(kind) and kind in KINDS


def is_pieces(value):
    """Whether a value are pieces."""
    if not isinstance(value, list) or not all([is_piece(item) for item in value]):
        return False
    return value == sorted(value) and size_of_pieces(value) <= MOST_UNKNOWNS


def check_pieces(pieces):
    """Refuse what are no pieces."""
    if not is_pieces(pieces):
        raise InvalidPieces(pieces)


def unknowns_of(pieces):
    """How many unknowns pieces have."""
    check_pieces(pieces)
    return size_of_pieces(pieces)


def rows_of_sum(pieces, size):
    """The form of so many unknowns that is the sum of pieces."""
    rows = [[0] * size for _ in range(size)]
    at = 0
    for k, kind in pieces:
        rows[at][at] = kind << k
        if not is_square_kind(kind):
            rows[at + 1][at + 1] = kind << k
            rows[at][at + 1] = rows[at + 1][at] = 1 << k
        at = at + size_of_piece((k, kind))
    return rows


def sum_of(pieces, size):
    """The form of so many unknowns that is the sum of pieces."""
    check_pieces(pieces)
    if not is_size(size) or size < size_of_pieces(pieces):
        raise InvalidNumber(size)
    return rows_of_sum(pieces, size)


def is_left_at(width, piece):
    """Whether a piece is something at a width."""
    k, kind = piece
    return k < width if is_square_kind(kind) else k < width - 1


def cut_pieces(width, pieces):
    """What is left of pieces at any whole number from 1 on in the place of a width."""
    # The kind 2 of a pair stays: where something is left of a pair it is cut by 4 at least.
    return sorted([(k, kind % (1 << (width - k))) for k, kind in pieces if is_left_at(width, (k, kind))])


def cut(width, pieces):
    """What is left of pieces at a width."""
    check_width(width)
    check_pieces(pieces)
    return cut_pieces(width, pieces)


def times(pieces, number):
    """Pieces whose sum is alike with the sum of some, multiplied by a number."""
    check_pieces(pieces)
    if not is_whole(number) or number == 0:
        raise InvalidNumber(number)
    more = twos_of(number)
    odd = number >> more
    return sorted([(k + more, kind * odd % 8 if is_square_kind(kind) else kind) for k, kind in pieces])


def together(one, other):
    """The pieces of both, in order."""
    check_pieces(one)
    check_pieces(other)
    if size_of_pieces(one) + size_of_pieces(other) > MOST_UNKNOWNS:
        raise InvalidPieces(other)
    return sorted(one + other)
