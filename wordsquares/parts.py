"""Parts of forms at every width, and the rests that complete them.

Whatever is split off a form at every width, its pieces and those of a rest are together pieces of the
form. So all parts and rests are told by all lists of pieces that have the form's symbol.
"""

from wordsquares.checks import is_size
from wordsquares.errors import InvalidNumber, Unlike
from wordsquares.forms import check_form
from wordsquares.layouts import all_with_symbol, first_of_each
from wordsquares.pieces import size_of_pieces
from wordsquares.symbols import symbol
from wordsquares.told_way import exact_pieces


def check_part(form, part):
    """Refuse what are not a form and one of at most as many unknowns."""
    check_form(form)
    check_form(part)
    if len(part) > len(form):
        raise Unlike(part)


def is_part(form, part):
    """Whether a form is a part of another one at every width."""
    return len(rests(form, part)) > 0


def rests(form, part):
    """The list, in order, of the plain pieces of all rests of a part, each once, empty if it is none."""
    check_part(form, part)
    taken, size = exact_pieces(part), len(form) - len(part)
    found = []
    for pieces in all_with_symbol(symbol(form)):
        if has_all(pieces, taken):
            found.append(without(pieces, taken))
    # With a greater size the part would have more unknowns that stand nowhere than the form has.
    return first_of_each([rest for rest in found if size_of_pieces(rest) <= size], size)


def has_all(pieces, taken):
    """Whether some pieces are among others, each at least as often."""
    return all([pieces.count(piece) >= taken.count(piece) for piece in taken])


def without(pieces, taken):
    """The pieces that are left where some are taken away."""
    rest = list(pieces)
    for piece in taken:
        rest.remove(piece)
    return rest


def is_sure(form, part):
    """Whether there is just one rest of a part."""
    return len(rests(form, part)) == 1


def pieces_in(form):
    """The list, in order, of all pieces whose form is a part of a form."""
    check_form(form)
    return sorted({piece for pieces in all_with_symbol(symbol(form)) for piece in pieces})


def sublists(pieces):
    """All lists of some of the pieces, in their order."""
    found = [[]]
    for piece in pieces:
        found = found + [some + [piece] for some in found]
    return found


def parts_of(form, size):
    """The list, in order, of the plain pieces of all parts with so many unknowns, each once."""
    check_form(form)
    if not is_size(size) or size > len(form):
        raise InvalidNumber(size)
    value = symbol(form)
    # Of the unknowns that stand nowhere a part has at most as many as the form.
    least = size - value[2]
    found = sorted({
        tuple(some) for pieces in all_with_symbol(value) for some in sublists(pieces)
        if least <= size_of_pieces(some) <= size
    })
    return first_of_each([list(some) for some in found], size)


def common_parts(one, other):
    """The list of the plain pieces of all parts of both forms with as many unknowns as can be, None without any."""
    check_form(one)
    check_form(other)
    for size in range(min(len(one), len(other)), 0, -1):
        theirs = parts_of(other, size)
        common = [pieces for pieces in parts_of(one, size) if pieces in theirs]
        if common:
            return common
    return None
