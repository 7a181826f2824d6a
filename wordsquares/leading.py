"""Changes that lead from form to form at a width, and the steps of which changes are made."""

from wordsquares.checks import check_size, check_width
from wordsquares.errors import InvalidChange, Unlike
from wordsquares.forms import check_change, check_form, check_two_forms, is_change
from wordsquares.led import plain_split
from wordsquares.rows import (
    changed_rows, dot, has_odd_determinant, inverse_rows, product_of, table_rows, times_words, transposed,
)
from wordsquares.steps import are_steps, product_of_steps, steps_for


def change_of_steps(width, size, steps):
    """The change for which a list of steps stands."""
    check_width(width)
    check_size(size)
    if not are_steps(width, size, steps):
        raise InvalidChange(steps)
    return product_of_steps(width, size, steps)


def steps_of(width, change):
    """A list of at most n (n + 1) steps that stands for a change, by 2 ** width."""
    check_width(width)
    check_change(change)
    return steps_for(width, change)


def is_leading(width, one, other, value):
    """Whether a value is a change that leads from one form to another one at a width."""
    check_width(width)
    check_two_forms(one, other)
    if not is_change(value) or len(value) != len(one):
        return False
    return table_rows(width, changed_rows(one, value)) == table_rows(width, other)


def leading_change(width, one, other):
    """A change whose items are words that leads from one form to another one at a width."""
    check_width(width)
    check_two_forms(one, other)
    low, high = plain_split(width, one), plain_split(width, other)
    if low[0] != high[0]:
        raise Unlike(other)
    # From the plain pieces the undone change leads on to the other form.
    change = product_of(low[1], inverse_rows(width, high[1]))
    return [[item % (1 << width) for item in row] for row in change]


def plain_change(width, form):
    """The tuple (pieces, change) of the plain pieces of a form and a change that leads to their sum."""
    check_width(width)
    check_form(form)
    return plain_split(width, form)


def all_leading(width, one, other):
    """The list of all changes whose items are words that lead from one form to another one at a width."""
    check_width(width)
    check_two_forms(one, other)
    goal = table_rows(width, other)
    vectors = all_vectors(width, len(one))
    found = [[]]
    for at in range(len(one)):
        own = [vector for vector in vectors if dot(vector, times_words(one, vector)) % (1 << width) == goal[at][at]]
        found = [ahead + [vector] for ahead in found for vector in own if fits(width, one, ahead, vector, goal[at])]
    return sorted([transposed(columns) for columns in found if has_odd_determinant(columns)])


def all_vectors(width, size):
    """All lists of so many words of a width."""
    found = [[]]
    for _ in range(size):
        found = [ahead + [word] for ahead in found for word in range(1 << width)]
    return found


def fits(width, form, ahead, vector, goal):
    """Whether a column makes, with each of those ahead of it, what stands in a list of a table."""
    beside = times_words(form, vector)
    return all([dot(column, beside) % (1 << (width - 1)) == item for column, item in zip(ahead, goal)])
