"""What is left of pieces at a width, the symbols that it can have there, and the first such lists.

A width is any whole number from 1 on here. Nothing is checked.
"""

from wordsquares.layouts import how_many_up_to, joined_lists, lists_at_scale, lists_up_to
from wordsquares.pieces import KINDS, cut_pieces, is_square_kind, size_of_pieces
from wordsquares.scales import key_of, signs_in, symbol_in
from wordsquares.twos import ODDS


def left_at(width, pieces):
    """What is left of pieces at a width, with one square for all those of the scale `width - 1`."""
    left = cut_pieces(width, pieces)
    low = [piece for piece in left if piece[0] < width - 1]
    return low + left[len(low):len(low) + 1]


def put_at(pieces, at, piece):
    """The pieces with another one in a place."""
    return pieces[:at] + [piece] + pieces[at + 1:]


def choices_at(width, pieces):
    """The lists of what is left at a width with all kinds that squares may have there as well.

    The piece in each place stays in it. Of the squares of the scale `width - 2` only the first one is
    given another kind: two of them with 4 more each have the same sign and the same sum together.
    """
    found = [pieces]
    squares = [at for at, (k, kind) in enumerate(pieces) if k == width - 2 and is_square_kind(kind)]
    for at in squares[:1]:
        k, kind = pieces[at]
        found = found + [put_at(pieces, at, (k, (kind + 4) % 8))]
    if pieces and pieces[-1][0] == width - 1:
        last = len(pieces) - 1
        found = [put_at(some, last, (width - 1, kind)) for some in found for kind in ODDS]
    return found


def symbol_left(width, pieces, size):
    """The least symbol that what is left at a width has with any choice of kinds.

    The choices of two lists that are alike there have just the same symbols, so their least ones are
    equal, too, and those of others are not.
    """
    return min([symbol_in(some, size) for some in choices_at(width, pieces)])


def symbol_at(width, pieces, size):
    """A symbol that sums of pieces with equal sizes have in common exactly if they are alike at a width."""
    return symbol_left(width, left_at(width, pieces), size)


def choice_with(width, pieces, symbol):
    """The first choice of kinds with which what is left at a width has a symbol."""
    size = size_of_pieces(pieces) + symbol[2]
    return [some for some in choices_at(width, pieces) if symbol_in(some, size) == symbol][0]


def kinds_left(width, k):
    """The kinds of the pieces of a scale that are left as they are at a width, in order."""
    return [kind for kind in KINDS if cut_pieces(width, [(k, kind)]) == [(k, kind)]]


def plain_left(width, pieces, size):
    """The first list of pieces left as they are at a width whose sum with a size is alike with that of pieces."""
    left = left_at(width, pieces)
    symbol = symbol_left(width, left, size)
    choices = [lists_at_scale(k, many, odd, kinds_left(width, k)) for k, many, odd, _ in signs_in(left)]
    for some in joined_lists(choices):
        if symbol_left(width, some, size) == symbol:
            return some
    return left


def all_left(width):
    """The list, in order, of all pieces that are left as they are at a width."""
    return [(k, kind) for k in range(width) for kind in kinds_left(width, k)]


def most_classes(width, size):
    """A number that classes of forms with a size at a width are not more than."""
    return how_many_up_to(size, all_left(width))


def classes_left(width, size):
    """The list of the plain pieces of all classes of forms with a size at a width, in order."""
    found = {}
    for pieces in lists_up_to(size, all_left(width)):
        if left_at(width, pieces) == pieces:
            key = key_of(symbol_left(width, pieces, size))
            found[key] = found.get(key, pieces)
    return list(found.values())
