"""Scales of pieces, their signs and sums, chains and ways, and the symbol when they are walked.

Nothing is checked here, and pieces need not be in order.
"""

from wordsquares.pieces import is_square_kind, size_of_pieces

# The kinds whose odd number in the determinant is 3 or 5 by 8.
MINUS_KINDS = (2, 3, 5)


def pieces_at_scale(pieces, scale):
    """Those of some pieces that have a scale."""
    return [(k, kind) for k, kind in pieces if k == scale]


def has_square(pieces):
    """Whether a square is among pieces."""
    return any([is_square_kind(kind) for _, kind in pieces])


def sign_of_pieces(pieces):
    """The sign of pieces of one scale."""
    minus = [kind for _, kind in pieces if kind in MINUS_KINDS]
    return 1 if len(minus) % 2 == 0 else -1


def signs_in(pieces):
    """The list of the tuples (k, unknowns, odd, sign) of all scales of pieces."""
    found = []
    for k in sorted({k for k, _ in pieces}):
        there = pieces_at_scale(pieces, k)
        found.append((k, size_of_pieces(there), has_square(there), sign_of_pieces(there)))
    return found


def chain_firsts(scales):
    """The dict of the odd scales and of the first number of the chain of each."""
    firsts = {}
    for k, _, odd, _ in scales:
        if odd:
            firsts[k] = firsts.get(k - 1, k)
    return firsts


def chain_sums(pieces, firsts):
    """The dict of the first numbers of chains and of the sum of each."""
    sums = {}
    for k, kind in pieces:
        if is_square_kind(kind):
            sums[firsts[k]] = (sums.get(firsts[k], 0) + kind) % 8
    return sums


def chains_in(pieces):
    """The list of the tuples (k, sum) of the chains of pieces."""
    return sorted(chain_sums(pieces, chain_firsts(signs_in(pieces))).items())


def are_on_one_way(low, high):
    """Whether a scale and the next greater one of some pieces are on one way."""
    if high[0] - low[0] == 1:
        return low[2] or high[2]
    # The number between the two is no scale, so both of them have to be odd.
    return high[0] - low[0] == 2 and low[2] and high[2]


def ways_in(pieces):
    """The list of the tuples (first, last) of the ways that have scales."""
    ways = []
    ahead = None
    for scale in signs_in(pieces):
        if ahead is not None and are_on_one_way(ahead, scale):
            ways[-1] = (ways[-1][0], scale[0])
        else:
            ways.append((scale[0], scale[0]))
        ahead = scale
    return ways


def chains_stepped(low, high, firsts):
    """The first numbers of the chains to whose sums a walk between two neighbouring scales adds 4."""
    if high[0] - low[0] == 2:
        return [firsts[low[0]], firsts[high[0]]]
    return [firsts[low[0] if low[2] else high[0]]]


def symbol_in(pieces, size):
    """The symbol of pieces with a size."""
    scales = signs_in(pieces)
    firsts = chain_firsts(scales)
    sums = chain_sums(pieces, firsts)
    signs = [sign for _, _, _, sign in scales]
    # All signs -1 of a way go to its least scale, so each may as well go from scale to scale, and
    # two that meet at a scale are none: what both would add further down is 8 together.
    for at in range(len(scales) - 1, 0, -1):
        low, high = scales[at - 1], scales[at]
        if signs[at] == -1 and are_on_one_way(low, high):
            signs[at] = 1
            signs[at - 1] = -signs[at - 1]
            for first in chains_stepped(low, high, firsts):
                sums[first] = (sums[first] + 4) % 8
    walked = [(k, unknowns, odd, sign) for (k, unknowns, odd, _), sign in zip(scales, signs)]
    return walked, sorted(sums.items()), size - size_of_pieces(pieces)


def key_of(symbol):
    """A key for dicts that is the same for equal symbols alone."""
    scales, chains, noughts = symbol
    return tuple(scales), tuple(chains), noughts
