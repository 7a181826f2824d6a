"""Lists of as many lists of as many whole numbers, reckoned with as with matrices.

Nothing is checked here: the modules with the interface check what they are handed.
"""

from wordsquares.checks import MOST_UNKNOWNS, is_whole
from wordsquares.twos import odd_inverse


def are_rows(value):
    """Whether a value is a list of n lists of n whole numbers, n from 1 to 6."""
    if not isinstance(value, list) or not 1 <= len(value) <= MOST_UNKNOWNS:
        return False
    if not all([isinstance(row, list) and len(row) == len(value) for row in value]):
        return False
    return all([is_whole(item) for row in value for item in row])


def dot(one, other):
    """The sum of the products of the items of two lists that stand at the same places."""
    return sum([left * right for left, right in zip(one, other)])


def unit_rows(size):
    """The rows that change nothing: 1 at the places (i, i), and 0 elsewhere."""
    return [[int(i == j) for j in range(size)] for i in range(size)]


def transposed(rows):
    """The lists of the items 0, 1, .. of all rows."""
    return [list(column) for column in zip(*rows)]


def product_of(one, other):
    """The product of two lists of rows."""
    columns = transposed(other)
    return [[dot(row, column) for column in columns] for row in one]


def times_words(rows, words):
    """The list of the sums of the items of each row times the words."""
    return [dot(row, words) for row in rows]


def changed_rows(form, change):
    """The form that a change makes of a form."""
    return product_of(transposed(change), product_of(form, change))


def table_rows(width, form):
    """The table of a form at a width."""
    whole, half = 1 << width, 1 << (width - 1)
    size = len(form)
    return [[form[i][j] % (whole if i == j else half) for j in range(size)] for i in range(size)]


def determinant_of(rows):
    """The determinant of rows, without fractions: each division below comes out even."""
    left = [list(row) for row in rows]
    size = len(left)
    sign, last = 1, 1
    for step in range(size):
        found = [at for at in range(step, size) if left[at][step] != 0]
        if not found:
            return 0
        if found[0] != step:
            left[step], left[found[0]] = left[found[0]], left[step]
            sign = -sign
        first = left[step]
        for row in left[step + 1:]:
            lead = row[step]
            for at in range(step + 1, size):
                row[at] = (row[at] * first[step] - lead * first[at]) // last
        last = first[step]
    return sign * last


def has_odd_determinant(rows):
    """Whether the determinant of rows is odd, which the lowest bits of the items tell."""
    return determinant_of([[item & 1 for item in row] for row in rows]) % 2 == 1


def inverse_rows(width, rows):
    """The words that, times rows with an odd determinant, are the unit rows by 2 ** width."""
    size, whole = len(rows), 1 << width
    left = [row + unit for row, unit in zip(rows, unit_rows(size))]
    for step in range(size):
        odd = [at for at in range(step, size) if left[at][step] % 2 == 1]
        left[step], left[odd[0]] = left[odd[0]], left[step]
        inverse = odd_inverse(width, left[step][step])
        first = [item * inverse % whole for item in left[step]]
        for other in range(size):
            if other == step:
                left[other] = first
            else:
                lead = left[other][step]
                left[other] = [(item - lead * top) % whole for item, top in zip(left[other], first)]
    return [row[size:] for row in left]
