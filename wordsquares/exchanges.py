"""Exchanges: what may be put in the place of some pieces so that the sums stay alike at every width.

An exchange is told as a tuple (taken, put) of the pieces that are taken and those in their place.
"""

from itertools import combinations

from wordsquares.pieces import is_square_kind
from wordsquares.scales import MINUS_KINDS
from wordsquares.twos import ODDS


def other_kind(kind):
    """The kind 4 more of a square, by 8, and the other one of a pair."""
    return (kind + 4) % 8 if is_square_kind(kind) else 2 - kind


def puts_of_squares(one, other):
    """What may be put for two squares, the one with the lesser scale first."""
    (low, a), (high, b) = one, other
    if high - low > 2:
        return []
    if low == high:
        return [sorted([(low, other_kind(a)), (low, other_kind(b))])]
    c = (a + (b << (high - low))) % 8
    return [[(low, c), (high, a * b * c % 8)]]


def triples_of(scale, square, pair):
    """The lists of three squares of a scale that may be put for a square and a pair there, of these kinds."""
    found = []
    for kinds in [(a, b, (square - a - b) % 8) for a in ODDS for b in ODDS if a <= b]:
        minus = [kind for kind in (square, pair) + kinds if kind in MINUS_KINDS]
        if len(minus) % 2 == 0 and kinds[1] <= kinds[2]:
            found.append([(scale, kind) for kind in kinds])
    return found


def puts_of_two(one, other):
    """What may be put for two pieces, in order."""
    (low, first), (high, second) = one, other
    odd = [kind for kind in (first, second) if is_square_kind(kind)]
    if len(odd) == 2:
        return puts_of_squares(one, other)
    if high - low > 1:
        return []
    if not odd:
        return [[(low, 2 - first)] * 2] if one == other else []
    if low == high:
        return triples_of(low, odd[0], first + second - odd[0])
    return [[(low, other_kind(first)), (high, other_kind(second))]]


def square_and_pair_for(squares):
    """The square and the pair that may be put for three squares of one scale."""
    scale = squares[0][0]
    square = sum([kind for _, kind in squares]) % 8
    minus = [kind for kind in [square] + [kind for _, kind in squares] if kind in MINUS_KINDS]
    return sorted([(scale, square), (scale, 0 if len(minus) % 2 == 0 else 2)])


def are_squares_of_one_scale(pieces):
    """Whether some pieces are squares of one scale."""
    return all([k == pieces[0][0] and is_square_kind(kind) for k, kind in pieces])


def exchanges_of(pieces):
    """The list of all exchanges of a list of pieces."""
    found = []
    for one, other in sorted({two for two in combinations(pieces, 2)}):
        found.extend([([one, other], put) for put in puts_of_two(one, other)])
    for three in sorted({some for some in combinations(pieces, 3)}):
        if are_squares_of_one_scale(three):
            found.append((list(three), square_and_pair_for(three)))
    return found


def after_exchange(pieces, taken, put):
    """The list of pieces that an exchange makes of a list."""
    rest = list(pieces)
    for piece in taken:
        rest.remove(piece)
    return sorted(rest + put)


def exchanged_lists(pieces):
    """The list, in order, of all lists that one exchange makes of a list of pieces, but the list itself."""
    found = sorted({tuple(after_exchange(pieces, taken, put)) for taken, put in exchanges_of(pieces)})
    return [list(some) for some in found if list(some) != pieces]


def road_between(one, other):
    """The first of the shortest roads between two lists of pieces, None if there is none."""
    ahead = {tuple(one): None}
    last = [one]
    while last and tuple(other) not in ahead:
        reached = []
        for pieces in last:
            for some in exchanged_lists(pieces):
                if tuple(some) not in ahead:
                    ahead[tuple(some)] = pieces
                    reached.append(some)
        last = reached
    return road_back(ahead, other) if tuple(other) in ahead else None


def road_back(ahead, other):
    """The road to a list of pieces, told by the list that is ahead of each."""
    road = [list(other)]
    while ahead[tuple(road[-1])] is not None:
        road.append(list(ahead[tuple(road[-1])]))
    return road[::-1]
