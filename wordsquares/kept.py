"""How many changes keep a form at a width, and which ones."""

from itertools import combinations

from wordsquares.alike import symbol_of_form_at
from wordsquares.checks import check_size, check_width
from wordsquares.errors import TooMany
from wordsquares.forms import check_form, is_change
from wordsquares.layouts import joined_lists
from wordsquares.pieces import size_of_piece, size_of_pieces
from wordsquares.ranks import is_odd_scale, shares_in
from wordsquares.rows import changed_rows, has_odd_determinant, table_rows, transposed
from wordsquares.told_way import exact_pieces

# So many lists of words are gone through, and so many changes are told, at most.
MOST_LISTS = 64
MOST_CHANGES = 2000


def pairs_of(size):
    """How many pairs of two unlike unknowns there are."""
    return size * (size - 1) // 2


def how_many_changes(width, size):
    """How many changes of so many unknowns there are at a width."""
    check_width(width)
    check_size(size)
    return changes_at(width, size)


def changes_at(width, size):
    """How many changes of so many unknowns there are at a width."""
    many = 1 << ((width - 1) * size * size)
    for i in range(size):
        many = many * ((1 << size) - (1 << i))
    return many


def how_many_tables(width, size):
    """How many forms of so many unknowns there are that are their own table at a width."""
    check_width(width)
    check_size(size)
    return 1 << (width * size + (width - 1) * pairs_of(size))


def all_tables(width, size):
    """The list of all forms of so many unknowns that are their own table at a width."""
    places = [(i, j) for i in range(size) for j in range(i, size)]
    sides = [1 << width if i == j else 1 << (width - 1) for i, j in places]
    found = []
    for items in joined_lists([[[word] for word in range(side)] for side in sides]):
        rows = [[0] * size for _ in range(size)]
        for (i, j), item in zip(places, items):
            rows[i][j] = rows[j][i] = item
        found.append(rows)
    return found


def is_settled(width, form):
    """Whether a width is at least the settled one of a form."""
    settled = settled_width(form)
    return settled is not None and width >= settled


def check_can_be_told(width, form):
    """Refuse what is no width, what is no form, and those of which there is too much to be gone through."""
    check_width(width)
    check_form(form)
    lists = 1 << (width * len(form))
    if lists > MOST_LISTS and not is_settled(width, form):
        raise TooMany(lists)


def how_many_keep(width, form):
    """How many changes at a width keep a form."""
    check_can_be_told(width, form)
    if is_settled(width, form):
        settled, many = kept_from(form)
        return many << ((width - settled) * pairs_of(len(form)))
    return changes_at(width, len(form)) // alike_tables(width, form)


def how_many_alike(width, form):
    """How many tables are alike with a form at a width."""
    many = how_many_keep(width, form)
    return changes_at(width, len(form)) // many


def alike_tables(width, form):
    """How many tables are alike with a form at a width, by going through all tables."""
    symbol = symbol_of_form_at(width, form)
    return len([table for table in all_tables(width, len(form)) if symbol_of_form_at(width, table) == symbol])


def keeps(width, form, change):
    """Whether a change keeps a form at a width."""
    return table_rows(width, changed_rows(form, change)) == table_rows(width, form)


def keeping(width, form):
    """The list, in order, of all changes at a width that keep a form."""
    many = how_many_keep(width, form)
    if many > MOST_CHANGES:
        raise TooMany(many)
    return sorted(kept_changes(width, form))


def all_bits(size):
    """All lists of so many bits."""
    return joined_lists([[[0], [1]] for _ in range(size)])


def kept_bits(form):
    """The list of all changes of bits that keep a form at the width 1."""
    # There an item of a table hangs on the list of the change's items in its column alone.
    columns = []
    for at in range(len(form)):
        columns.append([
            [bits] for bits in all_bits(len(form))
            if sum([form[i][i] * bit for i, bit in enumerate(bits)]) % 2 == form[at][at] % 2
        ])
    return [transposed(some) for some in joined_lists(columns) if has_odd_determinant(some)]


def kept_changes(width, form):
    """The list of all changes at a width that keep a form."""
    found = kept_bits(form)
    for at in range(2, width + 1):
        # The bit that a word has more at this width adds nothing to the table: its product with itself
        # and twice that with other words are cut.
        kept = [change for change in found if keeps(at, form, change)]
        found = [more for change in kept for more in with_another_bit(at, change)]
    return found


def with_another_bit(width, change):
    """All changes at a width that are a change at the width less 1."""
    size = len(change)
    items = [item for row in change for item in row]
    found = []
    for bits in all_bits(size * size):
        longer = [item + (bit << (width - 1)) for item, bit in zip(items, bits)]
        found.append([longer[i * size:(i + 1) * size] for i in range(size)])
    return found


def is_keeping(width, form, value):
    """Whether a value is a change that keeps a form at a width."""
    check_width(width)
    check_form(form)
    return is_change(value) and len(value) == len(form) and keeps(width, form, value)


def settled_width(form):
    """3 more than the greatest scale of the pieces of a form at every width, None if its determinant is 0."""
    check_form(form)
    pieces = exact_pieces(form)
    if size_of_pieces(pieces) < len(form):
        return None
    return max([k for k, _ in pieces]) + 3


def kept_from(form):
    """The tuple (width, many) of the settled width and of how many changes keep a form there, or None."""
    width = settled_width(form)
    if width is None:
        return None
    above, below = 1, 1
    for _, up, down in shares(form):
        above, below = above * up, below * down
    return width, (below << power_at_settled(width, exact_pieces(form))) // above


def power_at_settled(width, pieces):
    """How many twos stand beside the shares in how many changes keep a form at its settled width."""
    scales = [k for k, kind in pieces for _ in range(size_of_piece((k, kind)))]
    size = len(scales)
    apart = sum([abs(high - low) for low, high in combinations(scales, 2)])
    even = [k for k in scales if not is_odd_scale(pieces, k)]
    odd = [k for k in sorted(set(scales)) if is_odd_scale(pieces, k) and is_odd_scale(pieces, k + 1)]
    return (width + 1) * pairs_of(size) + ((size + 1) * sum(scales) - apart) // 2 + len(even) - len(odd)


def shares(form):
    """The list, in order, of the tuples (k, above, below) of the shares of a form."""
    check_form(form)
    return shares_in(exact_pieces(form))
