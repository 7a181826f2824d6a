"""How forms fall into pieces: the told way, with a width and without one."""

from wordsquares.checks import check_width
from wordsquares.forms import check_form, is_change
from wordsquares.pieces import is_pieces, rows_of_sum, size_of_pieces
from wordsquares.rows import changed_rows, table_rows, transposed
from wordsquares.scales import signs_in
from wordsquares.told_vectors import told_parts
from wordsquares.told_way import exact_pieces, piece_at, steps_at


def pieces_at(width, form):
    """The pieces of the told way at a width, in order."""
    check_width(width)
    check_form(form)
    taken, _ = steps_at(width, form)
    return sorted([piece_at(width, k, block) for k, block, _ in taken])


def split(width, form):
    """The tuple (pieces, change) of the told way's pieces and a change that leads to their sum."""
    check_width(width)
    check_form(form)
    parts, left = told_parts(width, form)
    columns = [vector for _, vectors in parts for vector in vectors]
    return [piece for piece, _ in parts], transposed(columns + left)


def is_split(width, form, value):
    """Whether a value is a tuple of pieces and a change that leads a form to their sum."""
    check_width(width)
    check_form(form)
    if not isinstance(value, tuple) or len(value) != 2:
        return False
    pieces, change = value
    if not is_pieces(pieces) or size_of_pieces(pieces) > len(form):
        return False
    if not is_change(change) or len(change) != len(form):
        return False
    return table_rows(width, changed_rows(form, change)) == table_of_sum(width, pieces, len(form))


def table_of_sum(width, pieces, size):
    """The table of the sum of pieces."""
    # From the width on a scale leaves nothing, however great it is.
    low = [(min(k, width), kind) for k, kind in pieces]
    return table_rows(width, rows_of_sum(low, size))


def pieces_of(form):
    """The pieces of the told way without a width, in order."""
    check_form(form)
    return sorted(exact_pieces(form))


def scales_of(form):
    """The list of the tuples (k, many, odd) of the scales of the pieces of a form."""
    return [(k, many, odd) for k, many, odd, _ in signs_in(pieces_of(form))]


def fewest_twos(form):
    """The fewest twos that a value of a form has, None if all values are 0."""
    scales = scales_of(form)
    if not scales:
        return None
    k, _, odd = scales[0]
    return k if odd else k + 1
