"""What parts two forms that are not alike: their symbols, or a word that they take unlike often."""

from wordsquares.checks import check_width, is_whole, is_width, is_word
from wordsquares.counts import turns_of
from wordsquares.eighths import settled_at, taken_often, turns_along, turns_at
from wordsquares.forms import check_form, check_two_forms
from wordsquares.scales import signs_in
from wordsquares.splits import pieces_at
from wordsquares.symbols import symbol
from wordsquares.told_way import exact_pieces

# What parts symbols, in the order in which it is looked for.
SIGN_NAMES = ("unknowns", "odd", "sign", "sum")


def signs_by_name(form):
    """The list of the dicts, one for each name, of what the symbol of a form has at each number k."""
    scales, chains, _ = symbol(form)
    return [
        {k: unknowns for k, unknowns, _, _ in scales},
        {k: odd for k, _, odd, _ in scales},
        {k: sign for k, _, _, sign in scales},
        {k: total for k, total in chains},
    ]


def parting_sign(one, other):
    """The tuple (name, k, low, high) of what of the symbols of two forms parts them, None if nothing does."""
    check_two_forms(one, other)
    for name, low, high in zip(SIGN_NAMES, signs_by_name(one), signs_by_name(other)):
        # Behind the first name both have the same numbers k.
        for k in sorted(set(list(low) + list(high))):
            if low.get(k, 0) != high.get(k, 0):
                return name, k, low.get(k, 0), high.get(k, 0)
    return None


def parting_word(one, other):
    """The tuple (width, word, low, high) of the first word that two forms take unlike often, None if there is none."""
    check_two_forms(one, other)
    low, high = exact_pieces(one), exact_pieces(other)
    size = len(one)
    # How often words are taken is told by the sums at all widths up to one, and tells them.
    for width in range(1, settled_at(low + high) + 1):
        if turns_at(width, low, size) != turns_at(width, high, size):
            return first_word_parted(width, turns_along(width, low, size), turns_along(width, high, size), size)
    return None


def first_word_parted(width, low, high, size):
    """The tuple (width, word, low, high) of the first word that is taken unlike often at the least such width."""
    # Only the sums at this width itself are unlike, and of them something comes for multiples of
    # 2 ** (width - 3) alone.
    words = range(0, 1 << width, 1 << max(0, width - 3))
    often = [(word, taken_often(low, width, size, word), taken_often(high, width, size, word)) for word in words]
    word, one, other = [told for told in often if told[1] != told[2]][0]
    return width, word, one, other


def is_parting_word(one, other, value):
    """Whether a value is a tuple of a width, a word and the unlike numbers of how often two forms take it."""
    check_two_forms(one, other)
    if not isinstance(value, tuple) or len(value) != 4:
        return False
    width, word, low, high = value
    if not is_width(width) or not is_word(width, word) or not is_whole(low) or not is_whole(high):
        return False
    often = [taken_often(turns_of(width, form), width, len(form), word) for form in (one, other)]
    return low != high and [low, high] == often


def equal_counts(width, one, other):
    """Whether two forms take each word of a width equally often there."""
    check_width(width)
    check_two_forms(one, other)
    return turns_of(width, one) == turns_of(width, other)


def low_scales(width, form):
    """The list of the tuples (k, many) of the scales below `width - 1` of the pieces of a form at a width."""
    check_width(width)
    check_form(form)
    return [(k, many) for k, many, _, _ in signs_in(pieces_at(width, form)) if k < width - 1]
