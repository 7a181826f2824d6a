"""The told way: how a form falls into pieces, a step at a time.

A step takes one unknown, or two; their items with one another are its *block*. The *weights* of
another unknown tell how much of the taken ones goes off it, so that its items with them become 0.
"""

from wordsquares.rows import determinant_of, dot, table_rows, transposed, unit_rows
from wordsquares.twos import odd_inverse, twos_of


def next_step(rows):
    """The tuple (k, places) of the scale and the unknowns of the next step, None if all items are 0."""
    size = len(rows)
    # Among items with as many twos the diagonal comes ahead, as False is less than True.
    found = min([
        (twos_of(rows[i][j]), i != j, i, j)
        for i in range(size) for j in range(i, size) if rows[i][j] != 0
    ], default=None)
    if found is None:
        return None
    k, are_two, i, j = found
    return (k, [i, j]) if are_two else (k, [i])


def block_of(rows, places):
    """The items of the unknowns at some places with one another."""
    return [[rows[i][j] for j in places] for i in places]


def odd_in(k, block):
    """The odd number in the determinant of a block of the scale k."""
    return determinant_of(block) >> (k * len(block))


def pair_kind(odd):
    """The kind of a pair with this odd number in the determinant of its block."""
    return 0 if odd % 8 == 7 else 2


def weights_of(k, block, side):
    """The weights of an unknown with these items beside the block's unknowns, times the block's odd number."""
    if len(block) == 1:
        return [side[0] >> k]
    low, between, high = block[0][0], block[0][1], block[1][1]
    first, second = side
    return [
        (high * first - between * second) >> (2 * k),
        (low * second - between * first) >> (2 * k),
    ]


def rest_of_step(rows, k, places):
    """The tuple (odd, weights, items) of what a step leaves of the other unknowns.

    The weights and the items come times the odd number of the block, so that there are no fractions.
    """
    block = block_of(rows, places)
    odd = odd_in(k, block)
    others = [at for at in range(len(rows)) if at not in places]
    sides = [[rows[at][i] for i in places] for at in others]
    weights = [weights_of(k, block, side) for side in sides]
    items = [
        [odd * rows[a][b] - dot(weight, side) for b, side in zip(others, sides)]
        for a, weight in zip(others, weights)
    ]
    return odd, weights, items


def rest_of_vectors(width, vectors, weights, places):
    """The vectors of the other unknowns, less those of the taken ones times their weights."""
    columns = transposed([vectors[i] for i in places])
    others = [vector for at, vector in enumerate(vectors) if at not in places]
    return [
        [(item - dot(weight, column)) % (1 << width) for item, column in zip(vector, columns)]
        for vector, weight in zip(others, weights)
    ]


def steps_at(width, form):
    """The tuple (taken, left) of the told way at a width.

    Of each step `taken` has the tuple (k, block, vectors) of its scale, its block and the vectors of its
    unknowns; `left` has those of the unknowns that stand nowhere. The vector of an unknown are the words
    of the form's own unknowns where this one is 1 and all others are 0.
    """
    rows = table_rows(width, form)
    vectors = unit_rows(len(form))
    taken = []
    step = next_step(rows)
    while step is not None:
        k, places = step
        taken.append((k, block_of(rows, places), [vectors[i] for i in places]))
        odd, weights, items = rest_of_step(rows, k, places)
        inverse = odd_inverse(width, odd)
        weights = [[part * inverse for part in weight] for weight in weights]
        vectors = rest_of_vectors(width, vectors, weights, places)
        rows = table_rows(width, [[inverse * item for item in row] for row in items])
        step = next_step(rows)
    return taken, vectors


def piece_at(width, k, block):
    """The piece that a block of the scale k is at a width."""
    odd = odd_in(k, block)
    if len(block) == 2:
        return (k, pair_kind(odd))
    return (k, odd % min(8, 1 << (width - k)))


def exact_pieces(form):
    """The pieces of the told way without a width, in the order in which they are taken."""
    # All items are fractions over one odd number, so the twos of their numerators are theirs. This
    # number stands once in what makes the kind of a square; in that of a pair its square, 1 by 8.
    rows, under = form, 1
    pieces = []
    step = next_step(rows)
    while step is not None:
        k, places = step
        odd, _, rows = rest_of_step(rows, k, places)
        pieces.append((k, pair_kind(odd) if len(places) == 2 else odd * under % 8))
        under = under * odd
        step = next_step(rows)
    return pieces
