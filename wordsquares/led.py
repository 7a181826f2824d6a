"""How changes lead, at a width, from the pieces of the told way to the plain ones, exchange by exchange.

Parts are, in order, tuples of a piece and of the vectors of its unknowns. Vectors are lists of words that
tell how often each of the form's own unknowns stands in an unknown. Nothing is checked.
"""

from wordsquares.exchanges import after_exchange, exchanges_of, road_between
from wordsquares.left import choice_with, plain_left, symbol_left
from wordsquares.pieces import cut_pieces, is_square_kind, size_of_piece, size_of_pieces
from wordsquares.relations import pair_beside_square, pairs_turned, square_beside_pair, squares_turned
from wordsquares.rows import inverse_rows, transposed, unit_rows
from wordsquares.told_vectors import combined, rows_of_piece, told_parts
from wordsquares.told_way import block_of, odd_in, pair_kind


def pieces_in(parts):
    """The pieces of parts."""
    return [piece for piece, _ in parts]


def vectors_in(parts):
    """The vectors of parts, one behind the other."""
    return [vector for _, vectors in parts for vector in vectors]


def with_vectors(pieces, vectors):
    """The parts of pieces with the vectors of their unknowns, one behind the other."""
    parts = []
    at = 0
    for piece in pieces:
        size = size_of_piece(piece)
        parts.append((piece, vectors[at:at + size]))
        at = at + size
    return parts


def written_change(one, other):
    """The tuple (change, form) of the written change for two pieces that can be exchanged."""
    (low, first), (high, second) = one, other
    if is_square_kind(first) and is_square_kind(second):
        change, left, right = squares_turned(low, first, high, second, 2 if low == high else 1)
        return change, [[left << low, 0], [0, right << high]]
    if is_square_kind(first):
        return square_beside_pair(low, first, high, second)
    if is_square_kind(second):
        return pair_beside_square(low, first, high, second)
    return pairs_turned(low)


def part_of_kind(width, k, block, kind, vectors):
    """The part of a piece of a kind that a block of the scale k is, with the vectors of its unknowns."""
    return (k, kind), combined(width, rows_of_piece(width, k, block, kind), vectors)


def parts_of_block(width, k, block, vectors):
    """The parts of a block of the scale k, of one or two unknowns, with the vectors of its unknowns."""
    odd, first = odd_in(k, block), block[0][0] >> k
    if len(block) == 1:
        return [part_of_kind(width, k, block, odd % 8, vectors)]
    if first % 2 == 0:
        return [part_of_kind(width, k, block, pair_kind(odd), vectors)]
    # The block is two squares: the second unknown is set apart from the first without a fraction.
    apart = combined(width, [[-(block[0][1] >> k), first]], vectors)
    ahead = parts_of_block(width, k, [[first << k]], vectors[:1])
    return ahead + parts_of_block(width, k, [[first * odd << k]], apart)


def parts_written(width, parts):
    """The parts that the written change makes of two that can be exchanged."""
    (one, _), (other, _) = parts
    if one[0] == other[0] and is_square_kind(other[1]) and not is_square_kind(one[1]):
        return parts_written(width, parts[::-1])
    change, form = written_change(one, other)
    vectors = combined(width, transposed(change), parts[0][1] + parts[1][1])
    many = size_of_piece(one)
    places = list(range(len(vectors)))
    ahead = parts_of_block(width, one[0], block_of(form, places[:many]), vectors[:many])
    behind = parts_of_block(width, other[0], block_of(form, places[many:]), vectors[many:])
    return sorted(ahead + behind)


def rows_of_exchange(width, taken, put):
    """The vectors of the unknowns of what an exchange puts, told by the unknowns of what it takes."""
    if len(taken) == 3 or [kind for _, kind in taken] == [0, 0]:
        # Written changes are told for the other way alone.
        return inverse_rows(width, rows_of_exchange(width, put, taken))
    parts = parts_written(width, with_vectors(taken, unit_rows(size_of_pieces(taken))))
    if pieces_in(parts) != put:
        # A square and a pair of one scale have become other three squares than those that are put.
        parts = parts_exchanged(width, parts, put)
    return vectors_in(parts)


def parts_exchanged(width, parts, goal):
    """The parts that an exchange makes of others whose pieces it leads to a list of pieces."""
    pieces = pieces_in(parts)
    taken, put = [(some, new) for some, new in exchanges_of(pieces) if after_exchange(pieces, some, new) == goal][0]
    rest, there = list(parts), []
    for piece in taken:
        there.append(rest.pop(pieces_in(rest).index(piece)))
    vectors = combined(width, rows_of_exchange(width, taken, put), vectors_in(there))
    return sorted(rest + with_vectors(put, vectors))


def one_square_on_top(width, parts, left):
    """The tuple (parts, left) with one square of the scale `width - 1` in the place of several ones."""
    low = [part for part in parts if part[0][0] < width - 1]
    top = parts[len(low):]
    # With the unknown of the first one, that of each other one makes one that stands nowhere: its
    # value is twice `2 ** (width - 1)`.
    gone = [combined(width, [[1, 1]], vectors_in([top[0], part]))[0] for part in top[1:]]
    return low + top[:1], left + gone


def plain_split(width, form):
    """The tuple (pieces, change) of the plain pieces of a form and of a change that leads to their sum."""
    parts, left = told_parts(width, form)
    parts, left = one_square_on_top(width, parts, left)
    plain = plain_left(width, pieces_in(parts), len(form))
    symbol = symbol_left(width, plain, len(form))
    # At the width the kinds may be chosen without a change, so that a road leads to the plain pieces.
    chosen = choice_with(width, pieces_in(parts), symbol)
    parts = sorted([(piece, vectors) for piece, (_, vectors) in zip(chosen, parts)])
    goal = sorted(choice_with(width, plain, symbol))
    for pieces in road_between(pieces_in(parts), goal)[1:]:
        parts = parts_exchanged(width, parts, pieces)
    parts = sorted([(cut_pieces(width, [piece])[0], vectors) for piece, vectors in parts])
    return plain, transposed(vectors_in(parts) + left)
