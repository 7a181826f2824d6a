"""Symbols: what is the same for all forms that are alike at every width."""

from wordsquares.checks import MOST_UNKNOWNS, is_count, is_size, is_whole
from wordsquares.errors import InvalidNumber, InvalidSymbol
from wordsquares.forms import check_form
from wordsquares.layouts import first_with_symbol
from wordsquares.pieces import check_pieces, size_of_pieces
from wordsquares.scales import chains_in, signs_in, symbol_in, ways_in
from wordsquares.told_way import exact_pieces


def signs_of(pieces):
    """The list of the tuples (k, unknowns, odd, sign) of all scales of pieces."""
    check_pieces(pieces)
    return signs_in(pieces)


def chains_of(pieces):
    """The list of the tuples (k, sum) of the first number and the sum of each chain of pieces."""
    check_pieces(pieces)
    return chains_in(pieces)


def ways_of(pieces):
    """The list of the tuples (first, last) of the least and the greatest scale on each way of pieces."""
    check_pieces(pieces)
    return ways_in(pieces)


def symbol_of(pieces, size):
    """The symbol of pieces with a size: their scales and chains when walked, and the noughts."""
    check_pieces(pieces)
    if not is_size(size) or size < size_of_pieces(pieces):
        raise InvalidNumber(size)
    return symbol_in(pieces, size)


def symbol(form):
    """The symbol of whatever pieces a form falls into at every width."""
    check_form(form)
    return symbol_in(exact_pieces(form), len(form))


def is_scale_tuple(value):
    """Whether a value is a tuple (k, unknowns, odd, sign) as it could stand in a symbol."""
    if not isinstance(value, tuple) or len(value) != 4:
        return False
    k, unknowns, odd, sign = value
    if not is_count(k) or not is_size(unknowns) or not isinstance(odd, bool):
        return False
    return is_whole(sign) and sign in (-1, 1)


def is_chain_tuple(value):
    """Whether a value is a tuple of two whole numbers."""
    return isinstance(value, tuple) and len(value) == 2 and all([is_whole(item) for item in value])


def has_shape_of_symbol(value):
    """Whether a value is made as a symbol is, whatever stands in it; a Boolean is no number there."""
    if not isinstance(value, tuple) or len(value) != 3:
        return False
    scales, chains, noughts = value
    if not isinstance(scales, list) or not all([is_scale_tuple(item) for item in scales]):
        return False
    if not isinstance(chains, list) or not all([is_chain_tuple(item) for item in chains]):
        return False
    if not is_count(noughts):
        return False
    return 1 <= noughts + sum([unknowns for _, unknowns, _, _ in scales]) <= MOST_UNKNOWNS


def is_symbol(value):
    """Whether a value is the symbol of some pieces and some size."""
    return has_shape_of_symbol(value) and first_with_symbol(value) is not None


def pieces_of_symbol(value):
    """The first list of pieces whose symbol, with some size, is a value."""
    if not has_shape_of_symbol(value):
        raise InvalidSymbol(value)
    pieces = first_with_symbol(value)
    if pieces is None:
        raise InvalidSymbol(value)
    return pieces


def plain_pieces(form):
    """The first list of pieces whose sum is alike with a form at every width."""
    return first_with_symbol(symbol(form))
