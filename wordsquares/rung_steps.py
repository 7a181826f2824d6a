"""Rungs of sheets, and the vectors of both sides with which a sheet has just the powers of 2 of its rungs.

A vector of a side tells how often each of the sheet's own unknowns of this side stands in an unknown.
Nothing is checked.
"""

from wordsquares.left import put_at
from wordsquares.rows import product_of, transposed, unit_rows
from wordsquares.told_way import rest_of_vectors
from wordsquares.twos import odd_inverse, twos_of


def words_of_rows(width, rows):
    """The rows with the words of their items."""
    return [[item % (1 << width) for item in row] for row in rows]


def sheet_between(width, lefts, sheet, rights):
    """The sheet that the vectors of both sides make of a sheet, by 2 ** width."""
    return words_of_rows(width, product_of(lefts, product_of(sheet, transposed(rights))))


def next_rung(rows):
    """The tuple (k, i, j) of the fewest twos of an item and of its place, None if all items are 0."""
    return min([
        (twos_of(item), i, j) for i, row in enumerate(rows) for j, item in enumerate(row) if item != 0
    ], default=None)


def rungs_in(sheet):
    """The list of the rungs that a sheet has at all great widths, ascending, not always strictly."""
    # The items that are left come times an odd number, so that there are no fractions.
    rows, found = sheet, []
    step = next_rung(rows)
    while step is not None:
        k, i, j = step
        found.append(k)
        rows = rest_of_rung(rows, k, i, j)
        step = next_rung(rows)
    return found


def rest_of_rung(rows, k, i, j):
    """What is left of the other rows and places, times the odd number of the item that was taken."""
    odd = rows[i][j] >> k
    return [
        [odd * item - (row[j] >> k) * top for place, (item, top) in enumerate(zip(row, rows[i])) if place != j]
        for at, row in enumerate(rows) if at != i
    ]


def rungs_at(width, sheet):
    """The list of the rungs of a sheet at a width, ascending, not always strictly."""
    return [k for k in rungs_in(sheet) if k < width]


def divided_vector(width, vectors, place, odd):
    """The vectors with the one in a place divided by an odd number."""
    inverse = odd_inverse(width, odd)
    return put_at(vectors, place, [item * inverse % (1 << width) for item in vectors[place]])


def diagonal_sides(width, sheet):
    """The tuple (left, right) of changes that lead a sheet to the one with the powers of 2 of its rungs."""
    lefts, rights = unit_rows(len(sheet)), unit_rows(len(sheet[0]))
    left, right = [], []
    rows = words_of_rows(width, sheet)
    step = next_rung(rows)
    while step is not None:
        k, i, j = step
        lefts = divided_vector(width, lefts, i, rows[i][j] >> k)
        rows = sheet_between(width, lefts, sheet, rights)
        left.append(lefts[i])
        right.append(rights[j])
        below = [[row[j] >> k] for at, row in enumerate(rows) if at != i]
        behind = [[item >> k] for at, item in enumerate(rows[i]) if at != j]
        lefts = rest_of_vectors(width, lefts, below, [i])
        rights = rest_of_vectors(width, rights, behind, [j])
        rows = sheet_between(width, lefts, sheet, rights)
        step = next_rung(rows)
    return transposed(left + lefts), transposed(right + rights)


def paired_side(width, sheet):
    """A change that leads, on both sides, an alternating sheet to the one with its rungs beside the diagonal."""
    vectors, taken = unit_rows(len(sheet)), []
    rows = words_of_rows(width, sheet)
    step = next_rung(rows)
    while step is not None:
        # The items (i, j) and (j, i) have as many twos, so i is below j in the first place that is found.
        k, i, j = step
        vectors = divided_vector(width, vectors, j, rows[i][j] >> k)
        rows = sheet_between(width, vectors, sheet, vectors)
        taken.extend([vectors[i], vectors[j]])
        weights = [[row[j] >> k, -(row[i] >> k)] for at, row in enumerate(rows) if at not in (i, j)]
        vectors = rest_of_vectors(width, vectors, weights, [i, j])
        rows = sheet_between(width, vectors, sheet, vectors)
        step = next_rung(rows)
    return transposed(taken + vectors)
