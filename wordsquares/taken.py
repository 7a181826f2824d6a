"""Which words a form takes at all, and which are lacking."""

from wordsquares.checks import check_whole, check_width, check_word
from wordsquares.counts import turns_of
from wordsquares.eighths import odd_noughts_often, settled_at, taken_often, turns_along
from wordsquares.forms import check_form
from wordsquares.pieces import size_of_pieces
from wordsquares.told_way import exact_pieces
from wordsquares.twos import ODDS, twos_of
from wordsquares.widths import least_width

# A form that takes all words of this width takes all words of every width.
TELLING_WIDTH = 4


def takes(width, form, word):
    """Whether a form takes a word at a width at all."""
    check_width(width)
    check_form(form)
    check_word(width, word)
    return taken_often(turns_of(width, form), width, len(form), word) > 0


def lots_at(width):
    """The list, in order, of all lots of a width."""
    return [(twos, odd) for twos in range(width) for odd in ODDS if odd < 1 << (width - twos)]


def lacking(width, form):
    """The list of the lots whose words a form does not take."""
    check_width(width)
    check_form(form)
    turns = turns_of(width, form)
    return [(twos, odd) for twos, odd in lots_at(width) if taken_often(turns, width, len(form), odd << twos) == 0]


def lacking_width(form, number):
    """The least width, of any size, at which the word of a whole number is not taken, None if there is none."""
    check_form(form)
    check_whole(number)
    if number == 0:
        return None
    greatest = twos_of(number) + 3
    turns = turns_of(greatest, form)

    def is_lacking(width):
        """Whether the word of the number is not taken at a width, and so at no greater one."""
        return taken_often(turns, width, len(form), number % (1 << width)) == 0

    return least_width(greatest, is_lacking) if is_lacking(greatest) else None


def takes_all(form):
    """Whether a form takes all words at every width."""
    return first_lacking(form) is None


def first_lacking(form):
    """The tuple (width, word) of the least width at which a word is lacking, and the least one, None if none is."""
    check_form(form)
    turns = turns_of(TELLING_WIDTH, form)
    for width in range(1, TELLING_WIDTH + 1):
        for word in range(1 << width):
            if taken_often(turns, width, len(form), word) == 0:
                return width, word
    return None


def odd_nought_width(form):
    """The least width, of any size, at which a form takes 0 at no list with an odd word, None if there is none."""
    check_form(form)
    pieces, size = exact_pieces(form), len(form)
    # An unknown that stands nowhere may be odd.
    if size_of_pieces(pieces) < size:
        return None
    greatest = settled_at(pieces)
    turns = turns_along(greatest, pieces, size)

    def has_none(width):
        """Whether 0 is taken at no list with an odd word at a width, and so at no greater one."""
        return odd_noughts_often(turns, width, size) == 0

    return least_width(greatest, has_none) if has_none(greatest) else None
