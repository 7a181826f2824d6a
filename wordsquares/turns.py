"""Sums of the points of the plane that the values of a form at all words are, told in eighth turns."""

from wordsquares.checks import check_whole, check_width
from wordsquares.counts import turns_of
from wordsquares.eighths import all_taken, settled_at, turn_for, turns_at
from wordsquares.errors import InvalidPieces
from wordsquares.forms import check_form, check_two_forms
from wordsquares.pieces import is_piece, is_square_kind, size_of_piece, size_of_pieces
from wordsquares.told_way import exact_pieces
from wordsquares.twos import ODDS


def turn_sum(width, form, times):
    """The tuple (turn, halves) of the sum of a form for a whole number, None if the sum is 0."""
    check_width(width)
    check_form(form)
    check_whole(times)
    return turn_for(width, exact_pieces(form), len(form), times)


def piece_turn(width, piece, times):
    """The tuple (turn, halves) of the sum of the form of one piece alone, None if the sum is 0."""
    check_width(width)
    if not is_piece(piece):
        raise InvalidPieces(piece)
    check_whole(times)
    return turn_for(width, [piece], size_of_piece(piece), times)


def turn_table(width, form):
    """The list that has for each width up to one the list of the four sums for 1, 3, 5 and 7."""
    check_width(width)
    check_form(form)
    return turns_of(width, form)


def taken_by_turns(width, form):
    """The list of how often a form takes each word of a width, from the sums alone."""
    check_width(width)
    check_form(form)
    return all_taken(turns_of(width, form), width, len(form))


def turns_part(one, other):
    """The tuple (width, times) of the first sums at which two forms are unlike, None if there are none."""
    check_two_forms(one, other)
    low, high, size = exact_pieces(one), exact_pieces(other), len(one)
    for width in range(1, settled_at(low + high) + 1):
        for odd, left, right in zip(ODDS, turns_at(width, low, size), turns_at(width, high, size)):
            if left != right:
                return width, odd
    return None


def halves_at(width, form):
    """The halves of the sums of a form at a width where they are not 0."""
    check_width(width)
    check_form(form)
    pieces = exact_pieces(form)
    unknowns = [min(width, k + 1) for k, kind in pieces for _ in range(size_of_piece((k, kind)))]
    noughts = len(form) - size_of_pieces(pieces)
    return width * len(form) + sum(unknowns) + width * noughts


def zero_widths(form):
    """The ascending list of all widths, of any size, at which the sum of a form for 1 is 0."""
    check_form(form)
    return sorted({k + 1 for k, kind in exact_pieces(form) if is_square_kind(kind)})
