"""Forms, their values and tables, and the changes of their unknowns."""

from wordsquares.checks import MOST_UNKNOWNS, check_width, check_words
from wordsquares.errors import InvalidChange, InvalidForm, Unlike
from wordsquares.rows import (
    are_rows, changed_rows, determinant_of, dot, has_odd_determinant, inverse_rows, product_of, table_rows,
    times_words,
)


def is_form(value):
    """Whether a value is a form."""
    if not are_rows(value):
        return False
    return all([value[i][j] == value[j][i] for i in range(len(value)) for j in range(i)])


def check_form(form):
    """Refuse what is no form."""
    if not is_form(form):
        raise InvalidForm(form)


def check_two_forms(one, other):
    """Refuse what are not two forms of as many unknowns."""
    check_form(one)
    check_form(other)
    if len(one) != len(other):
        raise Unlike(other)


def check_change(change):
    """Refuse what is no change."""
    if not is_change(change):
        raise InvalidChange(change)


def check_change_of(change, size):
    """Refuse what is no change of so many unknowns."""
    if not is_change(change) or len(change) != size:
        raise InvalidChange(change)


def value_at(width, form, words):
    """The value of a form at words."""
    check_width(width)
    check_form(form)
    check_words(width, words, len(form))
    return dot(words, times_words(form, words)) % (1 << width)


def table_of(width, form):
    """The table of a form: the items that its values hang on."""
    check_width(width)
    check_form(form)
    return table_rows(width, form)


def parting_words(width, one, other):
    """The first list of words at which two forms have unlike values, None if there is none."""
    check_width(width)
    check_two_forms(one, other)
    low, high = table_rows(width, one), table_rows(width, other)
    size = len(one)
    # The last unknowns alone come first in order; with i the first one that is not 0, the value
    # at i alone comes ahead of those at i and one more, and of these the last one comes first.
    for i in reversed(range(size)):
        for j in [i] + list(reversed(range(i + 1, size))):
            if low[i][j] != high[i][j]:
                return [int(at == i or at == j) for at in range(size)]
    return None


def beside(one, other):
    """The form of the unknowns of the one and, behind them, those of the other."""
    check_form(one)
    check_form(other)
    if len(one) + len(other) > MOST_UNKNOWNS:
        raise InvalidForm(other)
    ahead = [row + [0] * len(other) for row in one]
    return ahead + [[0] * len(one) + row for row in other]


def is_change(value):
    """Whether a value is a change."""
    return are_rows(value) and has_odd_determinant(value)


def determinant(rows):
    """The determinant of a list of n lists of n whole numbers."""
    if not are_rows(rows):
        raise InvalidChange(rows)
    return determinant_of(rows)


def changed(form, change):
    """The form that a change makes of a form."""
    check_form(form)
    check_change_of(change, len(form))
    return changed_rows(form, change)


def moved(width, change, words):
    """The words that a change makes of words."""
    check_width(width)
    check_change(change)
    check_words(width, words, len(change))
    return [item % (1 << width) for item in times_words(change, words)]


def joined(one, other):
    """The change that first moves by the other and then by the one."""
    check_change(one)
    check_change_of(other, len(one))
    return product_of(one, other)


def undone(width, change):
    """The change of words that moves back all that a change has moved."""
    check_width(width)
    check_change(change)
    return inverse_rows(width, change)
