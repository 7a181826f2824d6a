"""Sums of turns over all words, told by pieces, and how often words are taken, told by these sums.

The *sum* of a form at a width for an odd number u adds, over all lists of words of the width, the points
of the plane that lie u times the value, by `2 ** width`, of a whole round on from the point of 1. It is
told as the tuple (turn, halves): `turn` eighths of a round on, at the distance of `halves` roots of 2
multiplied with one another; None stands for 0. Of u only its rest by 8 counts.

A width is any whole number from 1 on here. Nothing is checked.
"""

from wordsquares.pieces import is_square_kind, size_of_piece, size_of_pieces
from wordsquares.twos import ODDS, twos_of


def turn_of_piece(width, piece, odd):
    """The sum of one piece alone, on its own unknowns."""
    k, kind = piece
    left = width - k
    if left <= 0:
        return 0, 2 * width * size_of_piece(piece)
    if not is_square_kind(kind):
        return (4 if kind == 2 and left % 2 == 0 else 0), 2 * (width + k + 1)
    if left == 1:
        return None
    if left % 2 == 1:
        return kind * odd % 8, width + k + 1
    return (1 if kind * odd % 4 == 1 else 7), width + k + 1


def turn_of_pieces(width, pieces, size, odd):
    """The sum of a sum of pieces with a size."""
    found = [turn_of_piece(width, piece, odd) for piece in pieces]
    if None in found:
        return None
    noughts = 2 * width * (size - size_of_pieces(pieces))
    return sum([turn for turn, _ in found]) % 8, noughts + sum([halves for _, halves in found])


def turn_for(width, pieces, size, times):
    """The sum of a sum of pieces with a size for any whole number, also an even one."""
    word = times % (1 << width)
    if word == 0:
        return 0, 2 * width * size
    # With each two in the number the sum is that at a width less, each list of words there counted as
    # often as there are lists with the bits that are cut.
    twos = twos_of(word)
    found = turn_of_pieces(width - twos, pieces, size, word >> twos)
    return None if found is None else (found[0], found[1] + 2 * twos * size)


def turns_at(width, pieces, size):
    """The list of the four sums of a sum of pieces, one for each odd number by 8."""
    return [turn_of_pieces(width, pieces, size, odd) for odd in ODDS]


def turns_along(width, pieces, size):
    """The list of the lists of the four sums at each width up to one."""
    return [turns_at(at, pieces, size) for at in range(1, width + 1)]


def sum_turned_back(turns, back):
    """The whole number that four sums add up to, the one for u turned back by u times so many eighths."""
    if turns[0] is None:
        return 0
    # All four are as far off. What they add up to is a whole number, so of the points on the axes and
    # of those between only the ones count that make a whole number together with the distance.
    halves = turns[0][1]
    points = [(turn - odd * back) % 8 for odd, (turn, _) in zip(ODDS, turns)]
    if halves % 2 == 0:
        many = points.count(0) - points.count(4)
    else:
        many = points.count(1) + points.count(7) - points.count(3) - points.count(5)
    return many << (halves // 2)


def taken_often(turns, width, size, word):
    """How often a word is taken at a width, told by the sums at each width up to it, at least."""
    # At the width j, u goes over the odd numbers by 2 ** j: as often over each of 1, 3, 5 and 7 by 8,
    # 2 ** (j - 3) times. All is counted 8 times here, as j may be less than 3.
    total = 8 << (width * size)
    for at in range(1, width + 1):
        # The turns back cancel each other where they are not eighths.
        if (word << 3) % (1 << at) == 0:
            found = sum_turned_back(turns[at - 1], (word << 3) >> at)
            total = total + (found << (at + (width - at) * size))
    return total >> (width + 3)


def all_taken(turns, width, size):
    """The list of how often each word of a width is taken, told by the sums at each width up to it."""
    return [taken_often(turns, width, size, word) for word in range(1 << width)]


def odd_noughts_often(turns, width, size):
    """At how many lists of words with an odd one 0 is taken at a width, told by the sums at each width up to it."""
    # Of even words the halves take 0 at the width less 2, each for all words that are they there.
    even = taken_often(turns, width - 2, size, 0) << size if width >= 2 else 1
    return taken_often(turns, width, size, 0) - even


def settled_at(pieces):
    """A whole number in the place of a width at which all pieces are told, and the greater ones tell no more."""
    return max([k + 3 if is_square_kind(kind) else k + 4 for k, kind in pieces], default=1)
