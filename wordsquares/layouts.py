"""Lists of pieces that are gone through: all that have given scales, or all of few unknowns."""

from wordsquares.pieces import KINDS, size_of_piece
from wordsquares.scales import has_square, key_of, symbol_in


def kind_lists(unknowns, kinds):
    """All ascending lists, not always strictly, of some kinds with so many unknowns, in order."""
    if unknowns == 0:
        return [[]]
    found = []
    for at, kind in enumerate(kinds):
        rest = unknowns - size_of_piece((0, kind))
        if rest >= 0:
            found = found + [[kind] + more for more in kind_lists(rest, kinds[at:])]
    return found


def lists_at_scale(k, unknowns, odd, kinds):
    """All lists of pieces of one scale, odd or not, with so many unknowns and some kinds, in order."""
    found = [[(k, kind) for kind in some] for some in kind_lists(unknowns, kinds)]
    return [pieces for pieces in found if has_square(pieces) == odd]


def joined_lists(choices):
    """All lists that are one list of each of the choices, one behind the other, in order."""
    found = [[]]
    for lists in choices:
        found = [ahead + more for ahead in found for more in lists]
    return found


def lists_with_scales(scales):
    """All lists of pieces with the scales of a symbol, whatever their signs, in order."""
    return joined_lists([lists_at_scale(k, unknowns, odd, KINDS) for k, unknowns, odd, _ in scales])


def size_of_symbol(value):
    """How many unknowns there are in a symbol, noughts among them."""
    scales, _, noughts = value
    return noughts + sum([unknowns for _, unknowns, _, _ in scales])


def first_with_symbol(value):
    """The first list of pieces that has a symbol, with some size, None if there is none."""
    size = size_of_symbol(value)
    for pieces in lists_with_scales(value[0]):
        if symbol_in(pieces, size) == value:
            return pieces
    return None


def all_with_symbol(value):
    """The list, in order, of all lists of pieces that have a symbol, with some size."""
    size = size_of_symbol(value)
    return [pieces for pieces in lists_with_scales(value[0]) if symbol_in(pieces, size) == value]


def first_of_each(lists, size):
    """The list, in order, of the first ones of lists of pieces that have one symbol, with a size."""
    firsts = {}
    for pieces in sorted(lists):
        key = key_of(symbol_in(pieces, size))
        firsts[key] = firsts.get(key, pieces)
    return list(firsts.values())


def lists_up_to(size, choices):
    """All lists of some pieces, each as often as may be, of at most so many unknowns, in order."""
    found = [[]]
    for at, piece in enumerate(choices):
        rest = size - size_of_piece(piece)
        if rest >= 0:
            found.extend([[piece] + more for more in lists_up_to(rest, choices[at:])])
    return found


def how_many_up_to(size, choices):
    """How many lists of some pieces, each as often as may be, there are of at most so many unknowns."""
    many = [1] + [0] * size
    for piece in choices:
        for unknowns in range(size_of_piece(piece), size + 1):
            many[unknowns] = many[unknowns] + many[unknowns - size_of_piece(piece)]
    return sum(many)
